import PyProof.Rows.All
import Wide.All
import OpenK.AllK
import Wide.FinOn
import Lean
import PyProof.EqAt
import PyProof.EqKinds
import PyProof.TupleCall
import PySem.Challenge.RW_pairedthrows_k22_first_above_a_mark
set_option Elab.async false
set_option linter.all false
set_option maxRecDepth 100000
/-! THE HAND LAYER, for ints, bools, texts, own classes, DICTS (int and text keys), calls, loops. Paste it whole ahead of your own text; what your proof does not reach may be deleted. -/
local macro_rules|`(tactic|omega)=>`(tactic|lia)
local macro_rules|`(def $i:declId $s:optDeclSig $v:declVal)=>`(noncomputable def $i:declId $s:optDeclSig $v:declVal)
noncomputable section
namespace L2
open PySem PySem.Spec PyProof.Rows

/-- a key: an int or a str -/
abbrev Key := Sum Int Str
def keyIs : Key → Value → Bool
  | .inl k, v => Value.isInt k v
  | .inr x, v => Value.isStrOf x v
def keyH (w : World) : Key → Int
  | .inl k => hashInt k
  | .inr x => hashStr w x
theorem keyIs_shape : ∀ {k : Key} {v : Value}, keyIs k v = true → (∃ i t, k = Sum.inl i ∧ v = Value.int i t) ∨ (∃ x t, k = Sum.inr x ∧ v = Value.str x t)
  | .inl i, v, h => by
    obtain ⟨t, e⟩ := Value.isInt_shape (k := i) (v := v) h
    exact .inl ⟨i, t, rfl, e⟩
  | .inr x, v, h => by
    obtain ⟨t, e⟩ := Value.isStrOf_shape (x := x) (v := v) h
    exact .inr ⟨x, t, rfl, e⟩
theorem keyIs_int (i : Int) (t : Tok) : keyIs (.inl i) (.int i t) = true := by simp [keyIs, Value.isInt]
theorem keyIs_str (x : Str) (t : Tok) : keyIs (.inr x) (.str x t) = true := by simp [keyIs, Value.isStrOf]
theorem key_ll (a b : Int) : decide ((Sum.inl a : Key) = Sum.inl b) = (a == b) := by
  by_cases e : a = b
  · subst e; simp
  · have h : ¬ (Sum.inl a : Key) = Sum.inl b := fun q => e (Sum.inl.inj q)
    rw [decide_eq_false h]
    exact (beq_eq_false_iff_ne.mpr e).symm
theorem key_rr (a b : Str) : decide ((Sum.inr a : Key) = Sum.inr b) = decide (a = b) := by
  by_cases e : a = b
  · subst e; simp
  · have h : ¬ (Sum.inr a : Key) = Sum.inr b := fun q => e (Sum.inr.inj q)
    rw [decide_eq_false h, decide_eq_false e]
theorem key_lr (a : Int) (b : Str) : decide ((Sum.inl a : Key) = Sum.inr b) = false := decide_eq_false (fun q => nomatch q)
theorem key_rl (a : Str) (b : Int) : decide ((Sum.inr a : Key) = Sum.inl b) = false := decide_eq_false (fun q => nomatch q)

def mixKind (prog : Program) (w : World) : PySem.KeyKind prog w Key where
  is := keyIs
  hash := keyH w
  inj := fun v a b ha hb => by
    rcases keyIs_shape ha with ⟨i, t, rfl, rfl⟩ | ⟨x, t, rfl, rfl⟩
    · rcases keyIs_shape hb with ⟨j, u, rfl, e⟩ | ⟨y, u, rfl, e⟩
      · injection e with e1 _; rw [e1]
      · exact nomatch e
    · rcases keyIs_shape hb with ⟨j, u, rfl, e⟩ | ⟨y, u, rfl, e⟩
      · exact nomatch e
      · injection e with e1 _; rw [e1]
  byValue := fun k v h => by
    rcases keyIs_shape h with ⟨i, t, rfl, rfl⟩ | ⟨x, t, rfl, rfl⟩ <;> rfl
  pyHash := fun hv h => by
    rcases keyIs_shape hv with ⟨i, t, rfl, rfl⟩ | ⟨x, t, rfl, rfl⟩
    · exact wpAny_pyHash_int h
    · exact wpAny_pyHash_str h
  eqBool := fun hu hv h => by
    rcases keyIs_shape hu with ⟨i, t, rfl, rfl⟩ | ⟨x, t, rfl, rfl⟩
    · rcases keyIs_shape hv with ⟨j, u, rfl, rfl⟩ | ⟨y, u, rfl, rfl⟩
      · rw [key_ll] at h; exact wpAny_eqBool_int h
      · rw [key_lr] at h; exact SeqAt.EqAt.int_str i t y u _ _ _ _ h
    · rcases keyIs_shape hv with ⟨j, u, rfl, rfl⟩ | ⟨y, u, rfl, rfl⟩
      · rw [key_rl] at h; exact SeqAt.EqAt.str_int x t j u _ _ _ _ h
      · rw [key_rr] at h; exact wpAny_eqBool_str h
  «strs» := fun k x t v h => by
    rcases keyIs_shape h with ⟨i, u, rfl, e⟩ | ⟨y, u, rfl, e⟩
    · exact nomatch e
    · injection e with e1 _
      subst e1
      cases v <;> rfl

theorem mixKind_int (prog : Program) (w : World) (i : Int) (t : Tok) : (mixKind prog w).is (.inl i) (.int i t) = true := keyIs_int i t
theorem mixKind_str (prog : Program) (w : World) (x : Str) (t : Tok) : (mixKind prog w).is (.inr x) (.str x t) = true := keyIs_str x t
end L2

namespace L2
open PySem PySem.Spec PyProof.Rows

/-- a value, without the heap -/
inductive V where
  | non | bl (b : Bool) | int (i : Int) | str (x : Str) | byt (b : Array UInt8) | flt (b : UInt64) | ref (a : Addr) | ty (n : String)
  deriving DecidableEq

def RelV : V → Value → Prop
  | .non, u => u = Value.none
  | .bl b, u => u = Value.bool b
  | .int i, u => ∃ t, u = Value.int i t
  | .str x, u => ∃ t, u = Value.str x t
  | .byt b, u => ∃ t, u = Value.bytes b t
  | .flt b, u => ∃ t, u = Value.float b t
  | .ref a, u => u = Value.ref a
  | .ty n, u => u = Value.type n

abbrev Vals : List V → List Value → Prop := Paired RelV
theorem Vals.length {xs : List V} {us : List Value} (r : Vals xs us) : xs.length = us.length := Paired.length r
theorem Vals.get : ∀ {xs : List V} {us : List Value} {i : Nat} {x : V}, Vals xs us → xs[i]? = some x → ∃ u, us[i]? = some u ∧ RelV x u
  | _, _, _, _, .nil, e => by simp at e
  | _, _, 0, _, .cons r _, e => by simp at e; subst e; exact ⟨_, rfl, r⟩
  | _, _, i + 1, x, .cons _ t, e => by
    obtain ⟨u, h1, h2⟩ := Vals.get (i := i) (x := x) t (by simpa using e)
    exact ⟨u, by simpa using h1, h2⟩
theorem Vals.set {x : V} {u : Value} (r : RelV x u) : ∀ {xs : List V} {us : List Value} (i : Nat), Vals xs us → Vals (xs.set i x) (us.set i u)
  | _, _, _, .nil => .nil
  | _, _, 0, .cons _ t => .cons r t
  | _, _, i + 1, .cons q t => .cons q (Vals.set r i t)
theorem Vals.append : ∀ {xs ys : List V} {us ws : List Value}, Vals xs us → Vals ys ws → Vals (xs ++ ys) (us ++ ws)
  | _, _, _, _, .nil, s => s
  | _, _, _, _, .cons r t, s => .cons r (Vals.append t s)
theorem Vals.take : ∀ {xs : List V} {us : List Value} (n : Nat), Vals xs us → Vals (xs.take n) (us.take n)
  | _, _, 0, _ => .nil
  | _, _, _ + 1, .nil => .nil
  | _, _, n + 1, .cons r t => .cons r (Vals.take n t)
theorem Vals.drop : ∀ {xs : List V} {us : List Value} (n : Nat), Vals xs us → Vals (xs.drop n) (us.drop n)
  | _, _, 0, r => r
  | _, _, _ + 1, .nil => .nil
  | _, _, n + 1, .cons _ t => Vals.drop n t
def RelO : Option V → Option Value → Prop
  | some v, some u => RelV v u
  | none, none => True
  | _, _ => False
def KV {κ : Type} : List (κ × V) → List (κ × Value) → Prop := Paired fun (p : κ × V) (q : κ × Value) => p.1 = q.1 ∧ RelV p.2 q.2

/-- a key of a dict (00_mix): an int or a text -/
def kV : Key → V
  | .inl i => .int i
  | .inr x => .str x

/-- what stands at a tracked address -/
inductive HO where
  /-- a list -/
  | lst (xs : List V)
  /-- a tuple (never changes) -/
  | tup (xs : List V)
  /-- a dict whose keys are ints and texts; one whose keys are tuples of ints and texts (the empty one is both) -/
  | dK (kvs : List (Key × V)) | dT (kvs : List (List Key × V))
  /-- a set of ints: its members, its size -/
  | set (S : Int → Bool) (n : Nat)
  /-- an instance of the class at C, its dict at dx, its attributes -/
  | ins (C dx : Addr) (fs : List (Str × V))
  /-- the dict of the instance at x -/
  | own (x : Addr)
  /-- the dict of an exception -/
  | xd (fs : List (Str × V))
  /-- a bound method, f of x -/
  | met (f x : Addr)
  /-- a range object lo, lo + 1, .. below hi -/
  | rng (lo hi : Int)
  /-- a thing that is known to the object (the script; a dict while a loop walks it): read, never written while it is so -/
  | frz (o : Obj) (u : HO)
  /-- a code object's table -/
  | tbl (ps : Array Value)
  /-- any other thing, by what is true of its one object (a def of one's own: SetO a S n := HO.ext fun h => ..) -/
  | ext (φ : Heap → Prop)

abbrev Hp := Addr → Option HO
def upd (H : Hp) (a : Addr) (o : HO) : Hp := fun b => if b = a then some o else H b
theorem upd_same {H : Hp} {a : Addr} {o : HO} : upd H a o a = some o := by unfold upd; rw [if_pos rfl]
theorem upd_ne {H : Hp} {a b : Addr} {o : HO} (h : b ≠ a) : upd H a o b = H b := by unfold upd; rw [if_neg h]
/-- two objects of different content stand apart -/
theorem ne_of {H : Hp} {a b : Addr} {o u : HO} (h : H a = some o) (h' : H b = some u) (d : o ≠ u) : a ≠ b := by
  intro e; subst e; rw [h] at h'; exact d (Option.some.inj h')
theorem ne_of_none {H : Hp} {a b : Addr} {o : HO} (h : H a = some o) (h' : H b = none) : a ≠ b := by
  intro e; subst e; rw [h] at h'; cases h'

section
variable (P : Program) (w : World)
def ObjOk (H : Hp) (h : Heap) (a : Addr) : HO → Prop
  | .lst xs => xs.length ≤ sizeLine ∧ ∃ (its : List Value) (n : Nat), Vals xs its ∧ h.get? a = some { cls := .type "list", data := .seq its.toArray n }
  | .tup xs => xs.length ≤ sizeLine ∧ ∃ its : List Value, Vals xs its ∧ IsTup h a its.toArray
  | .dK kvs => kvs.length ≤ sizeLine ∧ (a == sysModules) = false ∧ ∃ vs, KV kvs vs ∧ h.DictOf (mixKind P w) a vs
  | .dT kvs => kvs.length ≤ sizeLine ∧ (a == sysModules) = false ∧ ∃ xs : List (List Key × Addr × Value),
      Paired (fun (p : List Key × V) (q : List Key × Addr × Value) => p.1 = q.1 ∧ H q.2.1 = some (.tup (p.1.map kV)) ∧ RelV p.2 q.2.2) kvs xs ∧
      ∃ o es ep, h.get? a = some o ∧ o.ExactDict ∧ o.data = .dict es ep ∧ es.toList = xs.map (entryOfKey (tupleKind (mixKind P w))) ∧ (xs.map (·.1)).Nodup
  | .set S n => h.SetOf (intKind P w) a S n
  | .ins C dx fs => H dx = some (.own a) ∧ fs.length ≤ 1000 ∧ dx ≠ a ∧ h.get? a = some (PySem.W.instObj C dx) ∧
      ∃ mA, h.Ns1 dx mA ∧ (∀ f, RelO (fs.lookup f) (mA f)) ∧ PySem.Within mA (fs.map (·.1))
  | .own _ => ∃ o, h.get? a = some o
  | .xd fs => ∃ mA, h.Ns1 a mA ∧ ∀ f, RelO (fs.lookup f) (mA f)
  | .rng lo hi => ∃ t u v, h.get? a = some { cls := .type "range", data := .fields #[.int lo t, .int hi u, .int 1 v] }
  | .frz o u => h.get? a = some o ∧ ObjOk H h a u
  | .tbl ps => h.get? a = some { cls := .none, data := .fields ps }
  | .met f x => h.get? a = some (PySem.W.methodObj (.ref f) (.ref x))
  | .ext φ => φ h ∧ (∃ o, h.get? a = some o) ∧ ∀ h1 h2 : Heap, φ h1 → (∀ o, h1.get? a = some o → h2.get? a = some o) → φ h2
/-- the abstract heap is held -/
def HOk (H : Hp) (h : Heap) : Prop := ∀ a o, H a = some o → ObjOk P w H h a o
end

section
variable {P : Program} {w : World} {H H' : Hp} {h h' : Heap} {a : Addr} {o : HO}
theorem ObjOk.lt (x : ObjOk P w H h a o) : a < h.objs.size := by
  cases o with
  | lst xs => obtain ⟨_, _, _, _, e⟩ := x; exact Heap.lt_size e
  | tup xs => obtain ⟨_, _, _, p⟩ := x; exact p.lt
  | dK kvs => obtain ⟨_, _, _, _, o, _, _, e, _⟩ := x; exact Heap.lt_size e
  | dT kvs => obtain ⟨_, _, _, _, o, _, _, e, _⟩ := x; exact Heap.lt_size e
  | set S n => obtain ⟨o, _, _, _, e, _⟩ := x; exact Heap.lt_size e
  | ins C dx fs => obtain ⟨_, _, _, e, _⟩ := x; exact Heap.lt_size e
  | own y => obtain ⟨_, e⟩ := x; exact Heap.lt_size e
  | xd fs => obtain ⟨_, ⟨_, _, _, e, _⟩, _⟩ := x; exact Heap.lt_size e
  | rng lo hi => obtain ⟨_, _, _, e⟩ := x; exact Heap.lt_size e
  | frz ob u => obtain ⟨e, _⟩ := x; exact Heap.lt_size e
  | tbl ps => exact Heap.lt_size (show h.get? a = some _ from x)
  | met f y => exact Heap.lt_size (show h.get? a = some _ from x)
  | ext φ => obtain ⟨_, ⟨_, e⟩, _⟩ := x; exact Heap.lt_size e
theorem Paired.mapP {α β : Type} {F G : α → β → Prop} : ∀ {l₁ : List α} {l₂ : List β}, Paired F l₁ l₂ → (∀ a b, F a b → G a b) → Paired G l₁ l₂
  | _, _, .nil, _ => .nil
  | _, _, .cons r t, f => .cons (f _ _ r) (Paired.mapP t f)
/-- what an object's description leans on: its own object, its own dict, the tuples -/
theorem ObjOk.stay (x : ObjOk P w H h a o) (k : ∀ b u, (b = a ∨ H b = some (.own a)) → h.get? b = some u → h'.get? b = some u)
    (ho : ∀ b, H b = some (.own a) → H' b = some (.own a)) (ht : ∀ b xs, H b = some (.tup xs) → H' b = some (.tup xs)) : ObjOk P w H' h' a o := by
  induction o with
  | lst xs => obtain ⟨z, its, n, r, e⟩ := x; exact ⟨z, its, n, r, k _ _ (.inl rfl) e⟩
  | tup xs => obtain ⟨z, its, r, ob, e, c⟩ := x; exact ⟨z, its, r, ob, k _ _ (.inl rfl) e, c⟩
  | dK kvs => obtain ⟨z, y, vs, r, ob, es, ep, e, c⟩ := x; exact ⟨z, y, vs, r, ob, es, ep, k _ _ (.inl rfl) e, c⟩
  | dT kvs =>
    obtain ⟨z, y, xs, r, ob, es, ep, e, c⟩ := x
    exact ⟨z, y, xs, Paired.mapP r fun p q z => ⟨z.1, ht _ _ z.2.1, z.2.2⟩, ob, es, ep, k _ _ (.inl rfl) e, c⟩
  | set S n => obtain ⟨ob, es, ep, t, e, c⟩ := x; exact ⟨ob, es, ep, t, k _ _ (.inl rfl) e, c⟩
  | ins C dx fs =>
    obtain ⟨d, z, ne, e, mA, ⟨od, es, ep, e2, c⟩, r⟩ := x
    exact ⟨ho _ d, z, ne, k _ _ (.inl rfl) e, mA, ⟨od, es, ep, k _ _ (.inr d) e2, c⟩, r⟩
  | own y => obtain ⟨ob, e⟩ := x; exact ⟨ob, k _ _ (.inl rfl) e⟩
  | xd fs => obtain ⟨mA, ⟨od, es, ep, e, c⟩, r⟩ := x; exact ⟨mA, ⟨od, es, ep, k _ _ (.inl rfl) e, c⟩, r⟩
  | rng lo hi => obtain ⟨t, u, v, e⟩ := x; exact ⟨t, u, v, k _ _ (.inl rfl) e⟩
  | frz ob u ih => obtain ⟨e, q⟩ := x; exact ⟨k _ _ (.inl rfl) e, ih q⟩
  | tbl ps =>
    have e : h.get? a = some { cls := .none, data := .fields ps } := x
    show h'.get? a = some { cls := .none, data := .fields ps }
    exact k a _ (.inl rfl) e
  | met f y =>
    have e : h.get? a = some (PySem.W.methodObj (.ref f) (.ref y)) := x
    show h'.get? a = some (PySem.W.methodObj (.ref f) (.ref y))
    exact k a _ (.inl rfl) e
  | ext φ => obtain ⟨p, ⟨o, e⟩, st⟩ := x; exact ⟨st _ _ p fun o q => k _ _ (.inl rfl) q, ⟨o, k _ _ (.inl rfl) e⟩, st⟩
theorem HOk.lt (x : HOk P w H h) (e : H a = some o) : a < h.objs.size := (x a o e).lt
theorem HOk.fresh (x : HOk P w H h) (e : h.objs.size ≤ a) : H a = none := by
  cases q : H a with
  | none => rfl
  | some u => exact absurd (Nat.lt_of_lt_of_le (x.lt q) e) (Nat.lt_irrefl _)
/-- every object of the heap is kept -/
theorem HOk.kept (x : HOk P w H h) (k : ∀ b u, h.get? b = some u → h'.get? b = some u) : HOk P w H h' := fun a o e =>
  (x a o e).stay (fun b u _ q => k b u q) (fun _ q => q) fun _ _ q => q
/-- a new object is laid and tracked -/
theorem HOk.laid (x : HOk P w H h) (k : ∀ b u, h.get? b = some u → h'.get? b = some u) (hp : h.objs.size ≤ a) (new : ObjOk P w (upd H a o) h' a o) : HOk P w (upd H a o) h' := fun b u e => by
  have hn := x.fresh hp
  by_cases hb : b = a
  · subst hb; rw [upd_same] at e; cases e; exact new
  · rw [upd_ne hb] at e
    exact (x b u e).stay (fun c v _ q => k c v q) (fun c q => by rw [upd_ne (ne_of_none q hn)]; exact q) fun c xs q => by rw [upd_ne (ne_of_none q hn)]; exact q
end

/-- what may be read as u: it is u, or a known u -/
def Rd (H : Hp) (a : Addr) (u : HO) : Prop := H a = some u ∨ ∃ o, H a = some (.frz o u)
theorem Rd.ok {P : Program} {w : World} {H : Hp} {h : Heap} {a : Addr} {u : HO} (r : Rd H a u) (x : HOk P w H h) : ObjOk P w H h a u := by
  rcases r with r | ⟨o, r⟩
  · exact x a u r
  · obtain ⟨_, q⟩ := x a _ r
    exact q
/-- what may be written -/
def Mut : Option HO → Prop
  | some (.lst _) => True
  | some (.dK _) => True
  | some (.dT _) => True
  | some (.set _ _) => True
  | some (.ins _ _ _) => True
  | some (.ext _) => True
  | _ => False
section
variable {P : Program} {w : World} {H : Hp} {h h' : Heap} {x e : Addr} {o' : HO}
/-- the object at e is changed: x itself, or the dict of the instance x -/
theorem HOk.write (ok : HOk P w H h) (mu : Mut (H x)) (he : e = x ∨ H e = some (.own x)) (k : ∀ b u, b ≠ e → h.get? b = some u → h'.get? b = some u) (heo : ∃ u, h'.get? e = some u)
    (new : ObjOk P w (upd H x o') h' x o') : HOk P w (upd H x o') h' := fun b u q => by
  have nown : ∀ c y, H c = some (.own y) → c ≠ x := fun c y r z => by subst z; rw [r] at mu; exact mu
  have ntup : ∀ c xs, H c = some (.tup xs) → c ≠ x := fun c xs r z => by subst z; rw [r] at mu; exact mu
  by_cases hb : b = x
  · subst hb; rw [upd_same] at q; cases q; exact new
  · rw [upd_ne hb] at q
    by_cases hbe : b = e
    · have q' : H b = some (.own x) := by
        rcases he with z | z
        · exact absurd (hbe.trans z) hb
        · rw [hbe]; exact z
      rw [q] at q'; cases q'
      obtain ⟨v, hv⟩ := heo
      exact ⟨v, by rw [hbe]; exact hv⟩
    · refine (ok b u q).stay (fun c v hc r => k c v ?_ r) (fun c r => by rw [upd_ne (nown c b r)]; exact r) fun c xs r => by rw [upd_ne (ntup c xs r)]; exact r
      rcases hc with rfl | hc
      · exact hbe
      · rintro rfl
        rcases he with z | z
        · exact nown c b hc z
        · rw [hc] at z; cases z; exact hb rfl
end

/-! ### kept unless tracked; of the frames at fs (the callers') the slots may change (an exception that passes writes there); of the records at ex (iterators) nothing is said -/
structure Un (fs ex : List Addr) (H H' : Hp) (h h' : Heap) : Prop where
  keep : ∀ b o, h.get? b = some o → H b = none → b ∉ fs → b ∉ ex → h'.get? b = some o
  slot : ∀ b o, h.get? b = some o → H b = none → b ∈ fs → b ∉ ex → ∃ sl, h'.get? b = some { o with slots := sl }
  free : ∀ b o, h.get? b = some o → H b = none → b ∉ ex → H' b = none
  there : ∀ b o, h.get? b = some o → b ∉ ex → ∃ o', h'.get? b = some o'
  tups : ∀ b xs, H b = some (.tup xs) → H' b = some (.tup xs)
  frzs : ∀ b o u, H b = some (.frz o u) → H' b = some (.frz o u)
  tbls : ∀ b ps, H b = some (.tbl ps) → ∃ more, H' b = some (.tbl (ps ++ more))
section
variable {fs fs' ex ex' : List Addr} {H H1 H2 : Hp} {h h1 h2 h' : Heap} {a x e : Addr} {o : HO}
theorem Un.any (u : Un fs ex H H1 h h1) {b : Addr} {ob : Obj} (q : h.get? b = some ob) (n : H b = none) (hx : b ∉ ex) : ∃ sl, h1.get? b = some { ob with slots := sl } := by
  by_cases hb : b ∈ fs
  · exact u.slot b ob q n hb hx
  · exact ⟨ob.slots, u.keep b ob q n hb hx⟩
theorem Un.kept (k : ∀ b u, h.get? b = some u → h'.get? b = some u) : Un fs ex H H h h' :=
  ⟨fun b ob q _ _ _ => k b ob q, fun b ob q _ _ _ => ⟨ob.slots, k b ob q⟩, fun _ _ _ n _ => n, fun b ob q _ => ⟨ob, k b ob q⟩, fun _ _ q => q, fun _ _ _ q => q, fun _ ps q => ⟨#[], by rw [q]; simp⟩⟩
theorem Un.refl : Un fs ex H H h h := Un.kept fun _ _ q => q
theorem Un.laid (k : ∀ b u, h.get? b = some u → h'.get? b = some u) (hp : h.objs.size ≤ a) (hn : H a = none) : Un fs ex H (upd H a o) h h' where
  keep := fun b u q _ _ _ => k b u q
  slot := fun b u q _ _ _ => ⟨u.slots, k b u q⟩
  free := fun b u q n _ => by rw [upd_ne (Nat.ne_of_lt (Nat.lt_of_lt_of_le (Heap.lt_size q) hp))]; exact n
  there := fun b u q _ => ⟨u, k b u q⟩
  tups := fun b xs q => by rw [upd_ne (ne_of_none q hn)]; exact q
  frzs := fun b u xs q => by rw [upd_ne (ne_of_none q hn)]; exact q
  tbls := fun b ps q => ⟨#[], by rw [upd_ne (ne_of_none q hn), q]; simp⟩
theorem Un.write (mu : Mut (H x)) (he : e = x ∨ H e = some (.own x)) (k : ∀ b u, b ≠ e → h.get? b = some u → h'.get? b = some u) (heo : ∃ u, h'.get? e = some u) : Un fs ex H (upd H x o) h h' := by
  have hx : ∀ b, H b = none → b ≠ x := fun b n z => by subst z; rw [n] at mu; exact mu
  have hb : ∀ b, H b = none → b ≠ e := fun b n z => by
    subst z
    rcases he with r | r
    · exact hx b n r
    · rw [n] at r; cases r
  have hm : ∀ b u, H b = some u → ¬ Mut (some u) → b ≠ x := fun b u q nm z => by subst z; rw [q] at mu; exact nm mu
  refine ⟨fun b u q n _ _ => k b u (hb b n) q, fun b u q n _ _ => ⟨u.slots, k b u (hb b n) q⟩, fun b u q n _ => by rw [upd_ne (hx b n)]; exact n, fun b u q _ => ?_,
    fun b xs q => by rw [upd_ne (hm b _ q fun z => z)]; exact q, fun b u xs q => by rw [upd_ne (hm b _ q fun z => z)]; exact q, fun b ps q => ⟨#[], by rw [upd_ne (hm b _ q fun z => z), q]; simp⟩⟩
  by_cases hbe : b = e
  · subst hbe; exact heo
  · exact ⟨u, k b u hbe q⟩
end

/-! ### the heap without what is tracked -/
def trk (h : Heap) (H : Hp) : List Addr := (List.range h.objs.size).filter fun a => (H a).isSome
def hidT (h : Heap) (H : Hp) : Heap := PySem.W.hideAll h (trk h H)
theorem hidT_size (h : Heap) (H : Hp) : (hidT h H).objs.size = h.objs.size := PySem.W.hideAll_size _ _
theorem hidT_get {h : Heap} {H : Hp} {b : Addr} {o : Obj} (e : h.get? b = some o) (n : H b = none) : (hidT h H).get? b = some o :=
  PySem.W.hideAll_get _ e fun hm => by
    have q : (H b).isSome = true := (List.mem_filter.mp hm).2
    rw [n] at q; simp at q
theorem of_hidT {h : Heap} {H : Hp} {b : Addr} {o : Obj} (e : (hidT h H).get? b = some o) : h.get? b = some o ∧ H b = none := by
  have e' : h.get? b = some o := PySem.W.of_hideAll (trk h H) e
  refine ⟨e', ?_⟩
  cases q : H b with
  | none => rfl
  | some x =>
    have hm : b ∈ trk h H := List.mem_filter.mpr ⟨List.mem_range.mpr (Heap.lt_size e'), by simp [q]⟩
    have z : (hidT h H).get? b = none := PySem.W.hideAll_none (trk h H) hm
    rw [z] at e; cases e

/-! ### OpenK's ledger, filled with every new object but one -/
def allNews (g h : Heap) (L : Addr) : List (Addr × Obj) := (List.range h.objs.size).filterMap fun a => if a = L ∨ (g.get? a).isSome = true then none else (h.get? a).map fun o => (a, o)
def rest (g h : Heap) (L d : Addr) : List (Addr × Obj) := (allNews g h L).filter fun p => decide (p.1 ≠ d)
end L2

namespace L2
open PySem PySem.Spec PyProof.Rows

/-- the module's facts, over the base: the heap at the law's entry without what is tracked there -/
structure Mod (K : PySem.W.Frag) (mg : Str → Option Value) (base : Heap) : Prop where
  kin : K.In base
  glob : base.Ns mainGlobals mg
  blt : ∃ mb, base.Ns builtinsNs mb ∧ ∀ x : Str, x ≠ "__name__" → mb x = bootBuiltins x
  nolimit : base.NoLimit

/-- the context: a def's body (or a comprehension's block) running. base: fixed through the whole law; s₀, H₀: the entry; outer: the frames whose slots others may change (a def's callers); stack: all frames that run;
   ex: iterators that were made ahead of the entry and are walked here (a comprehension's); fn: the names whose cells were made at the entry (a def: all; a comprehension's block: its own); calm: not within an except suite; pn: pins that every state bears; xe: what is wanted of an exception that leaves the code -/
structure Cx where
  prog : Program
  w : World
  K : PySem.W.Frag
  mg : Str → Option Value
  base : Heap
  A : Around
  N : List Str
  s₀ : Shared
  H₀ : Hp
  env : Env
  outer : List Env
  stack : List Env
  ex : List Addr
  fn : Str → Bool
  calm : Bool
  pn : List (Addr × Obj)
  xe : Value → Shared → Prop
/-- the callers' frames -/
def frs (l : List Env) : List Addr := l.filterMap (·.frame)
abbrev Cx.fs (X : Cx) : List Addr := frs X.outer

def Vis (sc : Scope) (x : Str) : Prop := sc.names.lookup x = some .local ∨ sc.names.lookup x = some .cell ∨ sc.names.lookup x = some .free
def Loc (sc : Scope) (x : Str) : Prop := sc.names.lookup x = some .local ∨ sc.names.lookup x = some .cell
def Look (env : Env) (h : Heap) (m : Str → Option Value) (x : Str) (u : Value) : Prop :=
  (env.kindOf x = some .local ∧ m x = some u) ∨ ((env.kindOf x = some .cell ∨ env.kindOf x = some .free) ∧ ∃ c, env.cells.lookup x = some c ∧ h.IsCell c (some u))

structure Cx.Ok (X : Cx) : Prop where
  mod : Mod X.K X.mg X.base
  kind : X.env.scope.kind = .function
  glob : X.env.globals = mainGlobals
  blt : X.env.builtins = builtinsNs
  above : X.s₀.heap.objs.size ≤ X.env.locals
  inj : ∀ x y c, X.env.cells.lookup x = some c → X.env.cells.lookup y = some c → x = y
  has : ∀ x, (X.env.kindOf x = some .cell ∨ X.env.kindOf x = some .free) → ∃ c, X.env.cells.lookup x = some c
  cab : ∀ x c, X.fn x = true → X.env.cells.lookup x = some c → X.s₀.heap.objs.size ≤ c
  hd : X.calm = true → X.A.handled = none
  frames : X.A.frames = some X.stack
  stk : X.stack = X.outer ∨ (X.stack = X.env :: X.outer ∧ X.env.frame = some X.env.locals)
  exf : ∀ b ∈ X.ex, b ≠ X.env.locals ∧ ∀ x c, X.env.cells.lookup x = some c → c ≠ b
  bs : ∀ b o, X.base.get? b = some o → X.s₀.heap.get? b = some o ∧ X.H₀ b = none
  bsz : X.base.objs.size ≤ X.s₀.heap.objs.size
  noex : ∀ b o, X.base.get? b = some o → b ∉ X.ex
  exfs : ∀ b ∈ X.ex, b ∉ X.fs
  funs : X.s₀.heap.FunFrames X.base X.outer
  frf : ∀ b ∈ X.fs, X.H₀ b = none

structure Inv (X : Cx) (pins : List (Addr × Obj)) (σ : List (Option V)) (H : Hp) (s : Shared) : Prop where
  ok : X.Ok
  os : s.os = X.s₀.os
  bare : AllBare s.gens
  base : Un X.fs X.ex X.H₀ H X.s₀.heap s.heap
  loc : ∃ m, s.heap.Ns X.env.locals m ∧ ∀ (i : Nat) (x : Str) (v : V), X.N[i]? = some x → σ[i]? = some (some v) → Vis X.env.scope x → ∃ u, RelV v u ∧ Look X.env s.heap m x u
  cell : ∀ x c, X.env.cells.lookup x = some c → ∃ v, s.heap.IsCell c v
  free : H X.env.locals = none
  freeC : ∀ x c, X.env.cells.lookup x = some c → H c = none
  pin : ∀ p ∈ X.pn ++ pins, s.heap.get? p.1 = some p.2 ∧ H p.1 = none ∧ p.1 ≠ X.env.locals ∧ p.1 ∉ X.fs ∧ ∀ v, p.2.data ≠ .cell v
  hok : HOk X.prog X.w H s.heap
  len : σ.length = X.N.length

section
variable {X : Cx} {pins : List (Addr × Obj)} {σ : List (Option V)} {H H' : Hp} {s : Shared} {h' : Heap}

theorem Cx.Ok.nofr (ok : X.Ok) {b : Addr} {o : Obj} (e : X.base.get? b = some o) : b ∉ X.fs := fun hb => by
  have := (ok.funs.mem hb).1
  rw [e] at this; cases this
theorem Inv.bs (I : Inv X pins σ H s) : ∀ b o, X.base.get? b = some o → s.heap.get? b = some o ∧ H b = none := fun b o e =>
  ⟨I.base.keep b o (I.ok.bs b o e).1 (I.ok.bs b o e).2 (I.ok.nofr e) (I.ok.noex b o e), I.base.free b o (I.ok.bs b o e).1 (I.ok.bs b o e).2 (I.ok.noex b o e)⟩
theorem Inv.bk (I : Inv X pins σ H s) : ∀ b o, X.base.get? b = some o → s.heap.get? b = some o := fun b o e => (I.bs b o e).1
theorem Inv.mod (I : Inv X pins σ H s) : Mod X.K X.mg X.base := I.ok.mod
theorem Inv.kIn (I : Inv X pins σ H s) : X.K.In s.heap := I.ok.mod.kin.keeps I.bk
theorem Inv.lt (I : Inv X pins σ H s) : X.env.locals < s.heap.objs.size := let ⟨_, hn, _⟩ := I.loc; hn.lt
theorem Inv.sz (I : Inv X pins σ H s) : X.s₀.heap.objs.size ≤ s.heap.objs.size := Nat.le_trans I.ok.above (Nat.le_of_lt I.lt)
theorem Inv.nofs (I : Inv X pins σ H s) {a : Addr} (h : s.heap.objs.size ≤ a) : a ∉ X.fs := fun hb => by
  obtain ⟨_, o, ho, _⟩ := I.ok.funs.mem hb
  exact absurd (Nat.lt_of_lt_of_le (Heap.lt_size ho) (Nat.le_trans I.sz h)) (Nat.lt_irrefl _)
theorem Inv.cne (I : Inv X pins σ H s) : ∀ x c, X.env.cells.lookup x = some c → c ≠ X.env.locals := fun x c e z => by
  obtain ⟨v, o, ho, hd⟩ := I.cell x c e
  obtain ⟨m, ⟨o', es, ep, ho', hd', _⟩, _⟩ := I.loc
  rw [z, ho'] at ho; cases ho; rw [hd'] at hd; cases hd
theorem Inv.funs (I : Inv X pins σ H s) : s.heap.FunFrames X.base X.outer := by
  have all : ∀ (l : List Env), (∀ b ∈ frs l, b ∈ X.fs) → X.s₀.heap.FunFrames X.base l → s.heap.FunFrames X.base l := by
    intro l
    induction l with
    | nil => intro _ _; trivial
    | cons env r ih =>
      intro hs hl
      obtain ⟨hk, ⟨L, o, hf, hn, ho, hd⟩, hr⟩ := hl
      have hL : L ∈ X.fs := hs L (by unfold frs; rw [List.filterMap_cons, hf]; exact List.mem_cons_self)
      obtain ⟨sl, e⟩ := I.base.slot L o ho (I.ok.frf L hL) hL fun z => I.ok.exfs L z hL
      exact ⟨hk, ⟨L, _, hf, hn, e, hd⟩, ih (fun b hb => hs b (by unfold frs; rw [List.filterMap_cons, hf]; exact List.mem_cons_of_mem _ hb)) hr⟩
  exact all X.outer (fun _ hb => hb) I.ok.funs

/-- the frames that run, for a call -/
theorem Inv.stack (I : Inv X pins σ H s) : s.heap.FunFrames X.base X.stack := by
  rcases I.ok.stk with e | ⟨e, hf⟩
  · rw [e]; exact I.funs
  · rw [e]
    obtain ⟨m, hn, _⟩ := I.loc
    refine .cons (by rw [I.ok.kind]; decide) hf hn ?_ I.funs
    exact Heap.get?_none_of_le (Nat.le_trans I.ok.bsz I.ok.above)
theorem Inv.stkSub (I : Inv X pins σ H s) : ∀ b ∈ frs X.stack, b ∈ X.env.locals :: X.fs := fun b hb => by
  rcases I.ok.stk with e | ⟨e, hf⟩
  · rw [e] at hb; exact List.mem_cons_of_mem _ hb
  · rw [e] at hb
    unfold frs at hb
    rw [List.filterMap_cons, hf] at hb
    exact hb
theorem Inv.stkFree (I : Inv X pins σ H s) : ∀ b ∈ frs X.stack, H b = none := fun b hb => by
  rcases List.mem_cons.mp (I.stkSub b hb) with e | hb
  · rw [e]; exact I.free
  · obtain ⟨_, o, ho, _⟩ := I.ok.funs.mem hb
    exact I.base.free b o ho (I.ok.frf b hb) fun z => I.ok.exfs b z hb

/-- THE STEP: the untracked objects but the frame and the records at ch are kept (the callers' frames up to slots), the frame's map is kept, the new abstract heap is held -/
theorem Inv.step {g' : Array GenState} {t' : Nat} {d' : Drawn} {ch : List Addr} (I : Inv X pins σ H s)
    (hch : ∀ b ∈ ch, (b ∈ X.ex ∨ X.s₀.heap.objs.size ≤ b) ∧ b ≠ X.env.locals ∧ (∀ x c, X.env.cells.lookup x = some c → c ≠ b) ∧ ∀ p ∈ X.pn ++ pins, p.1 ≠ b)
    (keep : ∀ b o, b ≠ X.env.locals → b ∉ X.fs → b ∉ ch → s.heap.get? b = some o → H b = none → h'.get? b = some o)
    (slot : ∀ b o, b ≠ X.env.locals → b ∈ X.fs → b ∉ ch → s.heap.get? b = some o → H b = none → ∃ sl, h'.get? b = some { o with slots := sl }) (free : ∀ b o, b ∉ ch → s.heap.get? b = some o → H b = none → H' b = none)
    (there : ∀ b o, b ∉ ch → s.heap.get? b = some o → ∃ o', h'.get? b = some o')
    (tups : ∀ b xs, H b = some (.tup xs) → H' b = some (.tup xs)) (frzs : ∀ b o u, H b = some (.frz o u) → H' b = some (.frz o u)) (tbls : ∀ b ps, H b = some (.tbl ps) → ∃ more, H' b = some (.tbl (ps ++ more)))
    (ns : ∀ m, s.heap.Ns X.env.locals m → h'.Ns X.env.locals m) (hok : HOk X.prog X.w H' h') (hg : AllBare g') :
    Inv X pins σ H' { s with heap := h', gens := g', drawn := d', toks := t' } := by
  have neL : ∀ b o, X.s₀.heap.get? b = some o → b ≠ X.env.locals := fun b o e => Nat.ne_of_lt (Nat.lt_of_lt_of_le (Heap.lt_size e) I.ok.above)
  have neC : ∀ b o, X.s₀.heap.get? b = some o → b ∉ X.ex → b ∉ ch := fun b o e hx hb => by
    rcases (hch b hb).1 with z | z
    · exact hx z
    · exact absurd (Nat.lt_of_lt_of_le (Heap.lt_size e) z) (Nat.lt_irrefl _)
  have cellK : ∀ x c, X.env.cells.lookup x = some c → ∀ v, s.heap.IsCell c v → h'.IsCell c v := fun x c e v ⟨o, ho, hd⟩ => by
    have nch : c ∉ ch := fun z => (hch c z).2.2.1 x c e rfl
    by_cases hc : c ∈ X.fs
    · obtain ⟨sl, q⟩ := slot c o (I.cne x c e) hc nch ho (I.freeC x c e)
      exact ⟨_, q, hd⟩
    · exact ⟨o, keep c o (I.cne x c e) hc nch ho (I.freeC x c e), hd⟩
  refine ⟨I.ok, I.os, hg, ⟨fun b o e n hb hx => ?_, fun b o e n hb hx => ?_, fun b o e n hx => ?_, fun b o e hx => ?_, fun b xs e => tups b xs (I.base.tups b xs e), fun b o xs e => frzs b o xs (I.base.frzs b o xs e), fun b ps e => ?_⟩, ?_, fun x c e => ?_, ?_, fun x c e => ?_, fun p hp => ?_, hok, I.len⟩
  · exact keep b o (neL b o e) hb (neC b o e hx) (I.base.keep b o e n hb hx) (I.base.free b o e n hx)
  · obtain ⟨sl, e1⟩ := I.base.slot b o e n hb hx
    obtain ⟨sl', e2⟩ := slot b _ (neL b o e) hb (neC b o e hx) e1 (I.base.free b o e n hx)
    exact ⟨sl', e2⟩
  · obtain ⟨o', e1⟩ := I.base.there b o e hx
    exact free b o' (neC b o e hx) e1 (I.base.free b o e n hx)
  · obtain ⟨o', e1⟩ := I.base.there b o e hx
    exact there b o' (neC b o e hx) e1
  · obtain ⟨m1, e1⟩ := I.base.tbls b ps e
    obtain ⟨m2, e2⟩ := tbls b _ e1
    exact ⟨m1 ++ m2, by rw [e2, Array.append_assoc]⟩
  · obtain ⟨m, hn, hl⟩ := I.loc
    refine ⟨m, ns m hn, fun i x v e1 e2 e3 => ?_⟩
    obtain ⟨u, r, l⟩ := hl i x v e1 e2 e3
    refine ⟨u, r, ?_⟩
    rcases l with l | ⟨k, c, e, z⟩
    · exact .inl l
    · exact .inr ⟨k, c, e, cellK x c e _ z⟩
  · obtain ⟨v, z⟩ := I.cell x c e
    exact ⟨v, cellK x c e v z⟩
  · obtain ⟨m, ⟨o, _, _, ho, _⟩, _⟩ := I.loc
    exact free _ o (fun z => (hch _ z).2.1 rfl) ho I.free
  · obtain ⟨v, o, ho, hd⟩ := I.cell x c e
    exact free c o (fun z => (hch c z).2.2.1 x c e rfl) ho (I.freeC x c e)
  · obtain ⟨e, n, ne, nf, d⟩ := I.pin p hp
    have nch : p.1 ∉ ch := fun z => (hch p.1 z).2.2.2 p hp rfl
    exact ⟨keep p.1 p.2 ne nf nch e n, free p.1 p.2 nch e n, ne, nf, d⟩
/-- .. where the frame's own object is kept too -/
theorem Inv.un {t' : Nat} (I : Inv X pins σ H s) (u : Un X.fs [] H H' s.heap h') (hok : HOk X.prog X.w H' h') : Inv X pins σ H' { s with heap := h', toks := t' } := by
  obtain ⟨m, ⟨o, es, ep, ho, r⟩, _⟩ := id I.loc
  obtain ⟨sl, hL⟩ := u.any ho I.free (by simp)
  exact I.step (g' := s.gens) (d' := s.drawn) (ch := []) (fun _ z => nomatch z) (fun b o _ hb _ e n => u.keep b o e n hb (by simp)) (fun b o _ hb _ e n => u.slot b o e n hb (by simp)) (fun b o _ e n => u.free b o e n (by simp)) (fun b o _ e => u.there b o e (by simp)) u.tups u.frzs u.tbls (fun m' hm => by
    obtain ⟨o', es', ep', ho', r'⟩ := hm
    rw [ho] at ho'; cases ho'
    exact ⟨_, es', ep', hL, r'⟩) hok I.bare
/-- behind a call (or a comprehension's block): the slots of this frame may have changed too, the records at ch may have turned -/
theorem Inv.call {g' : Array GenState} {t' : Nat} {d' : Drawn} {ch : List Addr} (I : Inv X pins σ H s) (u : Un (frs X.stack) ch H H' s.heap h') (hok : HOk X.prog X.w H' h') (hg : AllBare g')
    (hch : ∀ b ∈ ch, (b ∈ X.ex ∨ X.s₀.heap.objs.size ≤ b) ∧ b ≠ X.env.locals ∧ (∀ x c, X.env.cells.lookup x = some c → c ≠ b) ∧ ∀ p ∈ X.pn ++ pins, p.1 ≠ b) :
    Inv X pins σ H' { s with heap := h', gens := g', drawn := d', toks := t' } := by
  obtain ⟨m, ⟨o, es, ep, ho, r⟩, _⟩ := id I.loc
  obtain ⟨sl, hL⟩ := u.any ho I.free fun z => (hch _ z).2.1 rfl
  exact I.step (ch := ch) hch (fun b o hL hb hc e n => u.keep b o e n (fun z => (List.mem_cons.mp (I.stkSub b z)).elim hL hb) hc) (fun b o _ _ hc e n => u.any e n hc) (fun b o hc e n => u.free b o e n hc) (fun b o hc e => u.there b o e hc) u.tups u.frzs u.tbls (fun m' hm => by
    obtain ⟨o', es', ep', ho', r'⟩ := hm
    rw [ho] at ho'; cases ho'
    exact ⟨_, es', ep', hL, r'⟩) hok hg
/-- an untracked record of ours (an iterator) has turned -/
theorem Inv.turned {t' : Nat} {it : Addr} (I : Inv X pins σ H s) (k : ∀ b o, b ≠ it → s.heap.get? b = some o → h'.get? b = some o) (hn : H it = none) (hL : it ≠ X.env.locals)
    (h1 : it ∈ X.ex ∨ X.s₀.heap.objs.size ≤ it) (h2 : ∀ x c, X.env.cells.lookup x = some c → c ≠ it) (h3 : ∀ p ∈ X.pn ++ pins, p.1 ≠ it) : Inv X pins σ H { s with heap := h', toks := t' } := by
  have nit : ∀ b u, H b = some u → b ≠ it := fun b u e z => by rw [z, hn] at e; cases e
  refine I.step (g' := s.gens) (d' := s.drawn) (ch := [it]) (fun b hb => ?_) (fun b o _ _ hc e _ => k b o (fun z => hc (by simp [z])) e) (fun b o _ _ hc e _ => ⟨o.slots, k b o (fun z => hc (by simp [z])) e⟩) (fun _ _ _ _ n => n)
    (fun b o hc e => ⟨o, k b o (fun z => hc (by simp [z])) e⟩) (fun _ _ e => e) (fun _ _ _ e => e) (fun b ps e => ⟨#[], by rw [e]; simp⟩) (fun m hm => ?_) (fun b u e => ?_) I.bare
  · have e : b = it := by simpa using hb
    subst e
    exact ⟨h1, hL, h2, h3⟩
  · obtain ⟨o, es, ep, ho, r⟩ := hm
    exact ⟨o, es, ep, k _ o (Ne.symm hL) ho, r⟩
  · refine (I.hok b u e).stay (fun c v hc q => k c v ?_ q) (fun _ q => q) fun _ _ q => q
    rcases hc with z | z
    · rw [z]; exact nit b u e
    · exact nit c _ z
theorem Inv.tok (I : Inv X pins σ H s) (t : Nat) : Inv X pins σ H { s with toks := t } := I.un (h' := s.heap) (t' := t) Un.refl I.hok
/-- all objects kept -/
theorem Inv.kept {t' : Nat} (I : Inv X pins σ H s) (k : ∀ b u, s.heap.get? b = some u → h'.get? b = some u) : Inv X pins σ H { s with heap := h', toks := t' } := I.un (Un.kept k) (I.hok.kept k)
/-- a new object laid and tracked -/
theorem Inv.laid {a : Addr} {o : HO} {t' : Nat} (I : Inv X pins σ H s) (k : ∀ b u, s.heap.get? b = some u → h'.get? b = some u) (hp : s.heap.objs.size ≤ a) (new : ObjOk X.prog X.w (upd H a o) h' a o) :
    Inv X pins σ (upd H a o) { s with heap := h', toks := t' } := I.un (Un.laid k hp (I.hok.fresh hp)) (I.hok.laid k hp new)
/-- an object written -/
theorem Inv.write {x e : Addr} {o : HO} {t' : Nat} (I : Inv X pins σ H s) (mu : Mut (H x)) (he : e = x ∨ H e = some (.own x)) (k : ∀ b u, b ≠ e → s.heap.get? b = some u → h'.get? b = some u) (heo : ∃ u, h'.get? e = some u)
    (new : ObjOk X.prog X.w (upd H x o) h' x o) : Inv X pins σ (upd H x o) { s with heap := h', toks := t' } := I.un (Un.write mu he k heo) (I.hok.write mu he k heo new)
theorem Inv.pins_of {pins' : List (Addr × Obj)} (I : Inv X pins σ H s) (h : ∀ p ∈ pins', s.heap.get? p.1 = some p.2 ∧ H p.1 = none ∧ p.1 ≠ X.env.locals ∧ p.1 ∉ X.fs ∧ ∀ v, p.2.data ≠ .cell v) : Inv X pins' σ H s :=
  ⟨I.ok, I.os, I.bare, I.base, I.loc, I.cell, I.free, I.freeC, fun p hp => (List.mem_append.mp hp).elim (fun z => I.pin p (List.mem_append_left _ z)) (h p), I.hok, I.len⟩

theorem nodup_ix {N : List Str} (hN : N.Nodup) {i j : Nat} {x : Str} (a : N[i]? = some x) (b : N[j]? = some x) : i = j := by
  obtain ⟨h1, e1⟩ := List.getElem?_eq_some_iff.mp a
  obtain ⟨h2, e2⟩ := List.getElem?_eq_some_iff.mp b
  exact (List.getElem_inj hN).mp (e1.trans e2.symm)

/-- a name is stored; what changed -/
theorem store_ok2 {M : Model} {A : Around} {E : Value → Shared → Prop} {i : Nat} {x : Str} {v : V} {u : Value} {Q : Unit → Shared → Prop} (I : Inv X pins σ H s) (hN : X.N.Nodup) (hi : X.N[i]? = some x) (hx : Loc X.env.scope x) (r : RelV v u)
    (h : ∀ s', Inv X pins (σ.set i (some v)) H s' → (∃ a, Heap.SameBut a s.heap s'.heap ∧ (a = X.env.locals ∨ X.env.cells.lookup x = some a)) → Q () s') (hf : X.fn x = true ∨ X.env.scope.names.lookup x = some .local := by first | exact .inl rfl | exact .inr rfl | assumption) : wpAny M A (storeName X.env x u) Q E s := by
  obtain ⟨m, hn, hl⟩ := id I.loc
  have hcls : (X.env.scope.kind == .class || (X.env.scope.kind == .module && X.env.locals != X.env.globals)) = false := by rw [I.ok.kind]; rfl
  have hiσ : i < σ.length := by rw [I.len]; exact (List.getElem?_eq_some_iff.mp hi).1
  have cne := I.cne
  have tracked : ∀ {a : Addr} {h' : Heap}, (∃ o, s.heap.get? a = some o ∧ H a = none) → Heap.SameBut a s.heap h' → HOk X.prog X.w H h' := fun {a h'} ha hs b ob e => by
    obtain ⟨_, _, hfree⟩ := ha
    refine (I.hok b ob e).stay (fun c w' hc q => (hs.2 c ?_).trans q) (fun _ q => q) fun _ _ q => q
    rintro rfl
    rcases hc with rfl | hc
    · rw [hfree] at e; cases e
    · rw [hfree] at hc; cases hc
  rcases hx with hk | hk
  · refine wpAny_storeName_local hk hn (fun h' hn' hs => ?_) hcls
    obtain ⟨oL, _, _, hoL, _⟩ := id hn
    refine h _ ⟨I.ok, I.os, I.bare, ⟨fun b o e n hb hx => ?_, fun b o e n hb hx => ?_, I.base.free, fun b o e hx => ?_, I.base.tups, I.base.frzs, I.base.tbls⟩, ⟨_, hn', fun j y v' e1 e2 e3 => ?_⟩, fun y c e => ?_, I.free, I.freeC, fun p hp => ?_, tracked ⟨oL, hoL, I.free⟩ hs, by simpa using I.len⟩ ⟨_, hs, .inl rfl⟩
    · exact (hs.2 b (Nat.ne_of_lt (Nat.lt_of_lt_of_le (Heap.lt_size e) I.ok.above))).trans (I.base.keep b o e n hb hx)
    · obtain ⟨sl, e1⟩ := I.base.slot b o e n hb hx
      exact ⟨sl, (hs.2 b (Nat.ne_of_lt (Nat.lt_of_lt_of_le (Heap.lt_size e) I.ok.above))).trans e1⟩
    · obtain ⟨o', e1⟩ := I.base.there b o e hx
      exact ⟨o', (hs.2 b (Nat.ne_of_lt (Nat.lt_of_lt_of_le (Heap.lt_size e) I.ok.above))).trans e1⟩
    · by_cases hj : j = i
      · subst hj
        rw [hi] at e1; cases e1
        rw [List.getElem?_set_self hiσ] at e2
        cases e2
        exact ⟨u, r, .inl ⟨hk, by simp⟩⟩
      · rw [List.getElem?_set_ne (Ne.symm hj)] at e2
        obtain ⟨u', r', q⟩ := hl j y v' e1 e2 e3
        refine ⟨u', r', ?_⟩
        rcases q with ⟨k, e⟩ | ⟨k, c, e, z⟩
        · refine .inl ⟨k, ?_⟩
          have : y ≠ x := fun e => hj (nodup_ix hN e1 (e ▸ hi))
          simp [this, e]
        · exact .inr ⟨k, c, e, z.sameBut hs (cne y c e)⟩
    · obtain ⟨w', z⟩ := I.cell y c e
      exact ⟨w', z.sameBut hs (cne y c e)⟩
    · obtain ⟨e, n, ne, nf, d⟩ := I.pin p hp
      exact ⟨(hs.2 p.1 ne).trans e, n, ne, nf, d⟩
  · have hfn : X.fn x = true := by
      rcases hf with z | z
      · exact z
      · rw [z] at hk; cases hk
    obtain ⟨c, hc⟩ := I.ok.has x (.inl hk)
    obtain ⟨w', z⟩ := I.cell x c hc
    refine wpAny_storeName_cell I.ok.kind hk hc z (fun h' hc' hs => ?_)
    obtain ⟨oc, hoc, hocd⟩ := id z
    refine h { s with heap := h' } ⟨I.ok, I.os, I.bare, ⟨fun b o e n hb hx => ?_, fun b o e n hb hx => ?_, I.base.free, fun b o e hx => ?_, I.base.tups, I.base.frzs, I.base.tbls⟩, ⟨m, hn.sameBut hs (Ne.symm (cne x c hc)), fun j y v' e1 e2 e3 => ?_⟩, fun y c' e => ?_, I.free, I.freeC, fun p hp => ?_, tracked ⟨oc, hoc, I.freeC x c hc⟩ hs, by simpa using I.len⟩ ⟨c, hs, .inr hc⟩
    · exact (hs.2 b (Nat.ne_of_lt (Nat.lt_of_lt_of_le (Heap.lt_size e) (I.ok.cab x c hfn hc)))).trans (I.base.keep b o e n hb hx)
    · obtain ⟨sl, e1⟩ := I.base.slot b o e n hb hx
      exact ⟨sl, (hs.2 b (Nat.ne_of_lt (Nat.lt_of_lt_of_le (Heap.lt_size e) (I.ok.cab x c hfn hc)))).trans e1⟩
    · obtain ⟨o', e1⟩ := I.base.there b o e hx
      exact ⟨o', (hs.2 b (Nat.ne_of_lt (Nat.lt_of_lt_of_le (Heap.lt_size e) (I.ok.cab x c hfn hc)))).trans e1⟩
    · by_cases hj : j = i
      · subst hj
        rw [hi] at e1; cases e1
        rw [List.getElem?_set_self hiσ] at e2
        cases e2
        exact ⟨u, r, .inr ⟨.inl hk, c, hc, hc'⟩⟩
      · rw [List.getElem?_set_ne (Ne.symm hj)] at e2
        obtain ⟨u', r', q⟩ := hl j y v' e1 e2 e3
        refine ⟨u', r', ?_⟩
        rcases q with q | ⟨k, c', e, z'⟩
        · exact .inl q
        · refine .inr ⟨k, c', e, z'.sameBut hs ?_⟩
          rintro rfl
          exact hj (nodup_ix hN e1 (I.ok.inj _ _ _ e hc ▸ hi))
    · by_cases hcc : c' = c
      · subst hcc; exact ⟨_, hc'⟩
      · obtain ⟨w2, z2⟩ := I.cell y c' e
        exact ⟨w2, z2.sameBut hs hcc⟩
    · obtain ⟨e, n, ne, nf, d⟩ := I.pin p hp
      refine ⟨(hs.2 p.1 ?_).trans e, n, ne, nf, d⟩
      intro q
      rw [q, hoc] at e
      have q' : oc = p.2 := Option.some.inj e
      exact d w' (by rw [← q']; exact hocd)
theorem store_ok {M : Model} {A : Around} {E : Value → Shared → Prop} {i : Nat} {x : Str} {v : V} {u : Value} {Q : Unit → Shared → Prop} (I : Inv X pins σ H s) (hN : X.N.Nodup) (hi : X.N[i]? = some x) (hx : Loc X.env.scope x) (r : RelV v u)
    (h : ∀ s', Inv X pins (σ.set i (some v)) H s' → Q () s') (hf : X.fn x = true ∨ X.env.scope.names.lookup x = some .local := by first | exact .inl rfl | exact .inr rfl | assumption) : wpAny M A (storeName X.env x u) Q E s :=
  store_ok2 I hN hi hx r (fun s' I' _ => h s' I') hf
/-- behind a call or a block, the state as it is -/
theorem Inv.call' {s' : Shared} {ch : List Addr} (I : Inv X pins σ H s) (ho : s'.os = s.os) (u : Un (frs X.stack) ch H H' s.heap s'.heap) (hok : HOk X.prog X.w H' s'.heap) (hg : AllBare s'.gens)
    (hch : ∀ b ∈ ch, (b ∈ X.ex ∨ X.s₀.heap.objs.size ≤ b) ∧ b ≠ X.env.locals ∧ (∀ x c, X.env.cells.lookup x = some c → c ≠ b) ∧ ∀ p ∈ X.pn ++ pins, p.1 ≠ b) : Inv X pins σ H' s' := by
  obtain ⟨h', g', d', t', o'⟩ := s'
  have e : o' = s.os := ho
  subst e
  exact I.call (g' := g') (t' := t') (d' := d') u hok hg hch
end

/-! ### the judgements -/
/-- an exception: its class, its own dict's address (where it has one), the abstract heap behind it -/
abbrev XK := Value → Option Addr → Hp → Prop
abbrev St := List (Option V)
abbrev VK := V → Hp → Prop
/-- an expression's reading; a test's; an argument list's -/
abbrev TE := St → Hp → VK → Prop
abbrev TT := St → Hp → (Bool → Hp → Prop) → Prop
abbrev TA := St → Hp → (List V → Hp → Prop) → Prop
/-- what is wanted behind a statement -/
structure Ends where
  nx : St → Hp → Prop
  rt : VK
  bk : St → Hp → Prop := fun _ _ => False
  ct : St → Hp → Prop := fun _ _ => False
abbrev TS := Ends → St → Hp → Prop

def EP (X : Cx) (pins : List (Addr × Obj)) (σ : St) (Q : VK) (u : Value) (s' : Shared) : Prop := ∃ v H', Inv X pins σ H' s' ∧ RelV v u ∧ Q v H'
def TP (X : Cx) (pins : List (Addr × Obj)) (σ : St) (Q : Bool → Hp → Prop) (b : Bool) (s' : Shared) : Prop := ∃ H', Inv X pins σ H' s' ∧ Q b H'
def AP (X : Cx) (pins : List (Addr × Obj)) (σ : St) (Q : List V → Hp → Prop) (us : List Value) (s' : Shared) : Prop := ∃ vs H', Inv X pins σ H' s' ∧ Vals vs us ∧ Q vs H'
def SP (X : Cx) (pins : List (Addr × Obj)) (D : Ends) (f : Flow) (s' : Shared) : Prop :=
  match f with
  | .next => ∃ σ' H', Inv X pins σ' H' s' ∧ D.nx σ' H'
  | .brk => ∃ σ' H', Inv X pins σ' H' s' ∧ D.bk σ' H'
  | .cont => ∃ σ' H', Inv X pins σ' H' s' ∧ D.ct σ' H'
  | .ret u => ∃ v σ' H', Inv X pins σ' H' s' ∧ RelV v u ∧ D.rt v H'

def PE (X : Cx) (e : Expr) (t : TE) : Prop :=
  ∀ (pins : List (Addr × Obj)) (s : Shared) (σ : St) (H : Hp) (Q : VK), Inv X pins σ H s → t σ H Q → wpAny (model X.prog X.w) X.A (eval e X.env) (EP X pins σ Q) X.xe s
def PT (X : Cx) (e : Expr) (t : TT) : Prop :=
  ∀ (pins : List (Addr × Obj)) (s : Shared) (σ : St) (H : Hp) (Q : Bool → Hp → Prop), Inv X pins σ H s → t σ H Q → wpAny (model X.prog X.w) X.A (isTrue e X.env (eval e X.env)) (TP X pins σ Q) X.xe s
/-- a test whatever its 'whole' is (and, or) -/
def PW (X : Cx) (e : Expr) (t : TT) : Prop :=
  ∀ (whole : Sem Value) (pins : List (Addr × Obj)) (s : Shared) (σ : St) (H : Hp) (Q : Bool → Hp → Prop), Inv X pins σ H s → t σ H Q → wpAny (model X.prog X.w) X.A (isTrue e X.env whole) (TP X pins σ Q) X.xe s
theorem PW.pt {X : Cx} {e : Expr} {t : TT} (h : PW X e t) : PT X e t := h _
/-- an argument list (no star), from the left -/
def PA (X : Cx) (es : List Expr) (t : TA) : Prop :=
  ∀ (pos : Pos) (pins : List (Addr × Obj)) (s : Shared) (σ : St) (H : Hp) (Q : List V → Hp → Prop), Inv X pins σ H s → t σ H Q → wpAny (model X.prog X.w) X.A (spliced (backTo pos (starEach es X.env))) (AP X pins σ Q) X.xe s
def PS (X : Cx) (st : Stmt) (t : TS) : Prop :=
  ∀ (pins : List (Addr × Obj)) (s : Shared) (σ : St) (H : Hp) (D : Ends), Inv X pins σ H s → t D σ H → wpAny (model X.prog X.w) X.A (exec st X.env) (SP X pins D) X.xe s
def PSs (X : Cx) (st : List Stmt) (t : TS) : Prop :=
  ∀ (pins : List (Addr × Obj)) (s : Shared) (σ : St) (H : Hp) (D : Ends), Inv X pins σ H s → t D σ H → wpAny (model X.prog X.w) X.A (execs st X.env) (SP X pins D) X.xe s
/-- weaken the end -/
theorem thn {α : Type} {t : Sem α} {Q Q' : α → Shared → Prop} {M : Model} {A : Around} {E : Value → Shared → Prop} {s : Shared} (h : wpAny M A t Q E s) (hQ : ∀ a s, Q a s → Q' a s) : wpAny M A t Q' E s := wpAny_mono h hQ fun _ _ x => x
end L2

namespace L2
open PySem PySem.Spec PyProof.Rows
section
variable {X : Cx}

/-! ### names and constants -/
def tVar (i : Nat) : TE := fun σ H Q => ∃ v, σ[i]? = some (some v) ∧ Q v H
def tC (v : V) : TE := fun _ H Q => Q v H
theorem pe_var {i : Nat} {x : Str} {pos : Pos} (hN : X.N[i]? = some x) (hv : Vis X.env.scope x) (hd : (x == ("__debug__" : Str)) = false := by decide) (hcd : (x == ("__classdict__" : Str)) = false := by decide) : PE X (.Name x pos) (tVar i) := by
  intro pins s σ H Q I h
  obtain ⟨v, e, h⟩ := h
  obtain ⟨m, hn, hl⟩ := I.loc
  obtain ⟨u, r, l⟩ := hl i x v hN e hv
  have fin : EP X pins σ Q u s := ⟨v, H, I, r, h⟩
  rcases l with ⟨hk, hm⟩ | ⟨hk, c, hc, hcell⟩
  · exact wpAny_Name (wpAny_loadName_local I.ok.kind hk hn hm fin) hd
  · rcases hk with hk | hk
    · exact wpAny_Name (wpAny_loadName_cell I.ok.kind hk hc hcell fin) hd
    · exact wpAny_Name (wpAny_loadName_free I.ok.kind hk hc hcell fin hcd) hd
theorem pe_int {i j pos} : PE X (.Constant (.int i) j pos) (tC (.int i)) := fun _ _ _ H _ I h => wpAny_Constant_int ⟨.int i, H, I.tok _, ⟨_, rfl⟩, h⟩
theorem pe_bl {b j pos} : PE X (.Constant (.bool b) j pos) (tC (.bl b)) := fun _ _ _ H _ I h => Constant_bool ⟨.bl b, H, I, rfl, h⟩
theorem pe_str {x j pos} : PE X (.Constant (.str x) j pos) (tC (.str x)) := fun _ _ _ H _ I h => Calls.Constant_str ⟨.str x, H, I.tok _, ⟨_, rfl⟩, h⟩

/-- a global name of the def -/
def Gl (X : Cx) (x : Str) : Prop := X.env.kindOf x = some .globalImplicit
theorem ld_glob {E : Value → Shared → Prop} {pins : List (Addr × Obj)} {s : Shared} {σ : St} {H : Hp} {x : Str} {u : Value} {pos : Pos} {Q : Value → Shared → Prop} (I : Inv X pins σ H s) (hg : Gl X x) (hm : X.mg x = some u) (h : Q u s)
    (hd : (x == ("__debug__" : Str)) = false := by decide) : wpAny (model X.prog X.w) X.A (eval (.Name x pos) X.env) Q E s :=
  Calls.Name_function_global I.ok.kind hg (Calls.loadGlobal_global (by rw [I.ok.glob]; exact I.mod.glob.keeps I.bk) hm h) hd
theorem ld_blt {E : Value → Shared → Prop} {pins : List (Addr × Obj)} {s : Shared} {σ : St} {H : Hp} {x : Str} {u : Value} {pos : Pos} {Q : Value → Shared → Prop} (I : Inv X pins σ H s) (hg : Gl X x) (hm : X.mg x = none) (hv : bootBuiltins x = some u) (h : Q u s)
    (hn : x ≠ "__name__" := by decide) (hd : (x == ("__debug__" : Str)) = false := by decide) : wpAny (model X.prog X.w) X.A (eval (.Name x pos) X.env) Q E s := by
  obtain ⟨mb, h1, h2⟩ := I.mod.blt
  exact Calls.Name_function_global I.ok.kind hg (Calls.loadGlobal_builtin (by rw [I.ok.glob]; exact I.mod.glob.keeps I.bk) hm (by rw [I.ok.blt]; exact h1.keeps I.bk) ((h2 x hn).trans hv) h) hd
/-! ### arithmetic -/
variable {a b : Expr} {ta tb : TE} {pos : Pos}
/-! ### comparisons -/
/-- a comparison as a value, as a test -/
def tB (t : TE) : TT := fun σ H Q => t σ H fun x H1 => ∃ c, x = .bl c ∧ Q c H1
/-- an expression whose value is a bool, as a test -/
theorem pt_val {e : Expr} {t : TE} (h : PE X e t) (he : ∀ whole, isTrue e X.env whole = (do let v ← whole; standAt e.pos; holding [v] (truthy v)) := by intro _; rfl) : PT X e (tB t) := by
  intro pins s σ H Q I hw
  refine isTrue_plain (thn (h pins s σ H _ I hw) fun v s1 ⟨x, H1, I1, r1, q1⟩ => ?_) (he _)
  obtain ⟨d, rfl, q⟩ := q1
  cases r1
  exact wpAny_truthy_bool ⟨H1, I1, q⟩

/-! ### and, or, not -/
variable {tA tB' : TT} {rest : List Expr}
def tAnd (t u : TT) : TT := fun σ H Q => t σ H fun c H1 => if c = true then u σ H1 Q else Q false H1
def tOr (t u : TT) : TT := fun σ H Q => t σ H fun c H1 => if c = true then Q true H1 else u σ H1 Q
theorem pw_and1 (ha : PT X a tA) : PW X (.BoolOp .And [a] pos) tA := by
  intro wh pins s σ H Q I h
  refine isTrue_and (thn (ha pins s σ H Q I h) fun c s1 e => ?_)
  cases c with
  | true => exact isTrue_and_nil e
  | false => exact e
theorem pw_or1 (ha : PT X a tA) : PW X (.BoolOp .Or [a] pos) tA := by
  intro wh pins s σ H Q I h
  refine isTrue_or (thn (ha pins s σ H Q I h) fun c s1 e => ?_)
  cases c with
  | false => exact isTrue_or_nil e
  | true => exact e
theorem pw_and (ha : PT X a tA) (hb : PW X (.BoolOp .And (b :: rest) pos) tB') : PW X (.BoolOp .And (a :: b :: rest) pos) (tAnd tA tB') := by
  intro wh pins s σ H Q I h
  refine isTrue_and (thn (ha pins s σ H _ I h) fun c s1 ⟨H1, I1, q1⟩ => ?_)
  cases c with
  | true => exact hb wh pins s1 σ H1 Q I1 q1
  | false => exact ⟨H1, I1, q1⟩
theorem pw_or (ha : PT X a tA) (hb : PW X (.BoolOp .Or (b :: rest) pos) tB') : PW X (.BoolOp .Or (a :: b :: rest) pos) (tOr tA tB') := by
  intro wh pins s σ H Q I h
  refine isTrue_or (thn (ha pins s σ H _ I h) fun c s1 ⟨H1, I1, q1⟩ => ?_)
  cases c with
  | true => exact ⟨H1, I1, q1⟩
  | false => exact hb wh pins s1 σ H1 Q I1 q1
def tOrV (ta tb : TE) : TE := fun σ H Q => ta σ H fun x H1 => ∃ c, x = .bl c ∧ if c = true then Q (.bl true) H1 else tb σ H1 Q
theorem pe_one {op} {t : TE} (h : PE X a t) : PE X (.BoolOp op [a] pos) t := fun pins s σ H Q I hw => BoolOp_one (h pins s σ H Q I hw)
theorem pe_or (ha : PE X a ta) (hb : PE X (.BoolOp .Or (b :: rest) pos) tb) : PE X (.BoolOp .Or (a :: b :: rest) pos) (tOrV ta tb) := by
  intro pins s σ H Q I h
  refine BoolOp_or (thn (ha pins s σ H _ I h) fun v s1 ⟨x, H1, I1, r1, q1⟩ => ?_)
  obtain ⟨c, rfl, q1⟩ := q1
  cases r1
  refine wpAny_truthy_bool ?_
  cases c with
  | false => exact hb pins s1 σ H1 Q I1 q1
  | true => exact ⟨.bl true, H1, I1, rfl, q1⟩
/-- a if t else b -/
def tIf (t : TT) (ta tb : TE) : TE := fun σ H Q => t σ H fun c H1 => if c = true then ta σ H1 Q else tb σ H1 Q
theorem pe_ifExp {c : Expr} (hc : PT X c tA) (ha : PE X a ta) (hb : PE X b tb) : PE X (.IfExp c a b pos) (tIf tA ta tb) := by
  intro pins s σ H Q I h
  refine wpAny_IfExp (thn (hc pins s σ H _ I h) fun d s1 ⟨H1, I1, q1⟩ => ?_)
  cases d with
  | true => exact ha pins s1 σ H1 Q I1 q1
  | false => exact hb pins s1 σ H1 Q I1 q1
end
end L2

namespace L2
open PySem PySem.Spec PyProof.Rows

/-! ### a list, a tuple that is read: tracked, frozen, or an object of the module -/
def SqL (K : PySem.W.Frag) (H : Hp) (a : Addr) (xs : List V) : Prop :=
  Rd H a (.lst xs) ∨
    ∃ (o : Obj) (its : Array Value) (n : Nat), K.lookup a = some o ∧ o.cls = .type "list" ∧ o.dict = none ∧ o.data = .seq its n ∧ its.size ≤ sizeLine ∧ Vals xs its.toList
def SqT (K : PySem.W.Frag) (H : Hp) (a : Addr) (xs : List V) : Prop :=
  Rd H a (.tup xs) ∨
    ∃ (o : Obj) (its : Array Value) (n : Nat), K.lookup a = some o ∧ o.cls = .type "tuple" ∧ o.data = .seq its n ∧ its.size ≤ sizeLine ∧ Vals xs its.toList
def absV : Value → Option V
  | .none => some .non
  | .bool b => some (.bl b)
  | .int i _ => some (.int i)
  | .str x _ => some (.str x)
  | .bytes b _ => some (.byt b)
  | .float b _ => some (.flt b)
  | .ref a => some (.ref a)
  | .type n => some (.ty n)
  | _ => none
theorem RelV.abs {x : V} {u : Value} (r : RelV x u) : absV u = some x := by
  cases x with
  | non => cases r; rfl
  | bl _ => cases r; rfl
  | int _ => obtain ⟨t, rfl⟩ := r; rfl
  | str _ => obtain ⟨t, rfl⟩ := r; rfl
  | byt _ => obtain ⟨t, rfl⟩ := r; rfl
  | flt _ => obtain ⟨t, rfl⟩ := r; rfl
  | ref _ => cases r; rfl
  | ty _ => cases r; rfl
theorem RelV.inj {x y : V} {u : Value} (r : RelV x u) (q : RelV y u) : x = y := Option.some.inj (r.abs.symm.trans q.abs)
theorem Vals.inj : ∀ {xs ys : List V} {us : List Value}, Vals xs us → Vals ys us → xs = ys
  | _, _, _, .nil, .nil => rfl
  | _, _, _, .cons r t, .cons r' t' => by rw [r.inj r', Vals.inj t t']
section
variable {X : Cx} {pins : List (Addr × Obj)} {σ : St} {H : Hp} {s : Shared} {a : Addr} {xs ys : List V}
theorem SqL.of {K : PySem.W.Frag} (h : H a = some (.lst xs)) : SqL K H a xs := .inl (.inl h)
theorem SqT.of {K : PySem.W.Frag} (h : H a = some (.tup xs)) : SqT K H a xs := .inl (.inl h)
theorem Inv.list (I : Inv X pins σ H s) (h : SqL X.K H a xs) : ∃ its : List Value, Vals xs its ∧ PlainL s.heap a its.toArray ∧ xs.length ≤ sizeLine := by
  rcases h with h | ⟨o, its, n, hk, hc, hd, hs, hz, r⟩
  · obtain ⟨z, its, n, r, e⟩ := h.ok I.hok
    exact ⟨its, r, ⟨_, n, e, rfl, rfl, rfl⟩, z⟩
  · refine ⟨its.toList, r, ⟨o, n, I.kIn a o hk, hc, hd, by simpa using hs⟩, ?_⟩
    have e := r.length
    simp only [Array.length_toList] at e
    omega
theorem Inv.tuple (I : Inv X pins σ H s) (h : SqT X.K H a xs) : ∃ its : List Value, Vals xs its ∧ IsTup s.heap a its.toArray ∧ xs.length ≤ sizeLine := by
  rcases h with h | ⟨o, its, n, hk, hc, hs, hz, r⟩
  · obtain ⟨z, its, r, p⟩ := h.ok I.hok
    exact ⟨its, r, p, z⟩
  · refine ⟨its.toList, r, ⟨o, I.kIn a o hk, hc, n, by simpa using hs⟩, ?_⟩
    have e := r.length
    simp only [Array.length_toList] at e
    omega
theorem Inv.list_inj (I : Inv X pins σ H s) (h : SqL X.K H a xs) (h' : SqL X.K H a ys) : xs = ys := by
  obtain ⟨its, r, ⟨o, n, e, _, _, d⟩, _⟩ := I.list h
  obtain ⟨its', r', ⟨o', n', e', _, _, d'⟩, _⟩ := I.list h'
  rw [e] at e'; cases e'
  rw [d] at d'
  injection d' with d1 _
  have : its = its' := by simpa using congrArg Array.toList d1
  subst this
  exact r.inj r'
theorem Inv.tuple_inj (I : Inv X pins σ H s) (h : SqT X.K H a xs) (h' : SqT X.K H a ys) : xs = ys := by
  obtain ⟨its, r, ⟨o, e, _, n, d⟩, _⟩ := I.tuple h
  obtain ⟨its', r', ⟨o', e', _, n', d'⟩, _⟩ := I.tuple h'
  rw [e] at e'; cases e'
  rw [d] at d'
  injection d' with d1 _
  have : its = its' := by simpa using congrArg Array.toList d1
  subst this
  exact r.inj r'
end

/-! ### another wish about exceptions -/
abbrev Cx.wish (X : Cx) (E : Value → Shared → Prop) : Cx := { X with xe := E }
/-- no exception leaves -/
abbrev Cx.nox (X : Cx) : Cx := X.wish fun _ _ => False
theorem Cx.Ok.wish {X : Cx} (ok : X.Ok) (E : Value → Shared → Prop) : (X.wish E).Ok :=
  ⟨ok.mod, ok.kind, ok.glob, ok.blt, ok.above, ok.inj, ok.has, ok.cab, ok.hd, ok.frames, ok.stk, ok.exf, ok.bs, ok.bsz, ok.noex, ok.exfs, ok.funs, ok.frf⟩
theorem Cx.Ok.unwish {X : Cx} {E : Value → Shared → Prop} (ok : (X.wish E).Ok) : X.Ok :=
  ⟨ok.mod, ok.kind, ok.glob, ok.blt, ok.above, ok.inj, ok.has, ok.cab, ok.hd, ok.frames, ok.stk, ok.exf, ok.bs, ok.bsz, ok.noex, ok.exfs, ok.funs, ok.frf⟩
section
variable {X : Cx} {pins : List (Addr × Obj)} {σ : St} {H : Hp} {s : Shared} {E : Value → Shared → Prop}
theorem Inv.wish (I : Inv X pins σ H s) (E : Value → Shared → Prop) : Inv (X.wish E) pins σ H s := ⟨I.ok.wish E, I.os, I.bare, I.base, I.loc, I.cell, I.free, I.freeC, I.pin, I.hok, I.len⟩
theorem Inv.unwish (I : Inv (X.wish E) pins σ H s) : Inv X pins σ H s := ⟨I.ok.unwish, I.os, I.bare, I.base, I.loc, I.cell, I.free, I.freeC, I.pin, I.hok, I.len⟩
theorem SP.unwish {D : Ends} {f : Flow} {s' : Shared} (h : SP (X.wish E) pins D f s') : SP X pins D f s' := by
  cases f with
  | next => obtain ⟨σ', H', I, q⟩ := h; exact ⟨σ', H', I.unwish, q⟩
  | brk => obtain ⟨σ', H', I, q⟩ := h; exact ⟨σ', H', I.unwish, q⟩
  | cont => obtain ⟨σ', H', I, q⟩ := h; exact ⟨σ', H', I.unwish, q⟩
  | ret u => obtain ⟨v, σ', H', I, r, q⟩ := h; exact ⟨v, σ', H', I.unwish, r, q⟩
theorem PSs.nox {st : List Stmt} {t : TS} (h : PSs X.nox st t) : PSs X st t := fun pins s σ H D I hw =>
  wpAny_mono (h pins s σ H D (I.wish _) hw) (fun _ _ q => q.unwish) fun _ _ z => False.elim z
end

/-! ### blocks and small statements -/
section
variable {X : Cx} {st : Stmt} {rest : List Stmt} {t u : TS} {e : Expr} {te : TE} {pos : Pos}
def tNext : TS := fun D σ H => D.nx σ H
def tSeq (t u : TS) : TS := fun D σ H => t { D with nx := u D } σ H
theorem pss_nil : PSs X [] tNext := fun _ _ σ H _ I h => wpAny_execs_nil ⟨σ, H, I, h⟩
theorem pss_cons (h1 : PS X st t) (h2 : PSs X rest u) : PSs X (st :: rest) (tSeq t u) := by
  intro pins s σ H D I h
  refine wpAny_execs_cons (thn (h1 pins s σ H { D with nx := u D } I h) fun f s1 q => ?_)
  cases f with
  | next =>
    obtain ⟨σ', H', I', q⟩ := q
    exact h2 pins s1 σ' H' D I' q
  | ret v => exact q
  | brk => exact q
  | cont => exact q
theorem pss_one (h1 : PS X st t) : PSs X [st] t := by
  intro pins s σ H D I h
  refine wpAny_execs_cons (thn (h1 pins s σ H D I h) fun f s1 q => ?_)
  cases f with
  | next => exact wpAny_execs_nil q
  | ret v => exact q
  | brk => exact q
  | cont => exact q
/-- in a def's body nothing is shown -/
theorem Inv.quiet {pins : List (Addr × Obj)} {σ : St} {H : Hp} {s : Shared} (I : Inv X pins σ H s) : interactive X.env = false := by simp [interactive, I.ok.kind]
/-- an expression whose value is dropped -/
def tDrop (te : TE) : TS := fun D σ H => te σ H fun _ H1 => D.nx σ H1
theorem ps_expr (he : PE X e te) (hs : swapsWith e none pos.line X.env = pure false := by rfl) : PS X (.Expr e pos) (tDrop te) := by
  intro pins s σ H D I h
  exact wpAny_Expr_any (thn (he pins s σ H _ I h) fun v s1 ⟨x, H1, I1, r1, q1⟩ => ⟨σ, H1, I1, q1⟩) I.quiet hs
def tRet (te : TE) : TS := fun D σ H => te σ H D.rt
theorem ps_ret (he : PE X e te) : PS X (.Return (some e) pos) (tRet te) := by
  intro pins s σ H D I h
  exact wpAny_Return_some (thn (he pins s σ H _ I h) fun v s1 ⟨x, H1, I1, r1, q1⟩ => ⟨x, σ, H1, I1, r1, q1⟩)
def tIfS (c : TT) (t u : TS) : TS := fun D σ H => c σ H fun b H1 => if b = true then t D σ H1 else u D σ H1
theorem ps_if {c : Expr} {a b : List Stmt} {tc : TT} (hc : PT X c tc) (ha : PSs X a t) (hb : PSs X b u) : PS X (.If c a b pos) (tIfS tc t u) := by
  intro pins s σ H D I h
  refine wpAny_If (thn (hc pins s σ H _ I h) fun d s1 ⟨H1, I1, q1⟩ => ?_)
  cases d with
  | true => exact ha pins s1 σ H1 D I1 q1
  | false => exact hb pins s1 σ H1 D I1 q1
/-- code that the proof never comes to -/
def tNever : TS := fun _ _ _ => False
theorem pss_never {sts : List Stmt} : PSs X sts tNever := fun _ _ _ _ _ _ h => h.elim
end

/-! ### targets -/
abbrev TG := V → St → Hp → (St → Hp → Prop) → Prop
abbrev TGs := List V → St → Hp → (St → Hp → Prop) → Prop
def PG (X : Cx) (target : Expr) (t : TG) : Prop :=
  ∀ (pins : List (Addr × Obj)) (s : Shared) (σ : St) (H : Hp) (v : V) (u : Value) (Q : St → Hp → Prop), Inv X pins σ H s → RelV v u → t v σ H Q →
    wpAny (model X.prog X.w) X.A (assign target X.env u) (fun _ s' => ∃ σ' H', Inv X pins σ' H' s' ∧ Q σ' H') X.xe s
/-- several targets, one after another -/
def PGs (X : Cx) (ts : List Expr) (t : TGs) : Prop :=
  ∀ (pins : List (Addr × Obj)) (s : Shared) (σ : St) (H : Hp) (vs : List V) (us : List Value) (Q : St → Hp → Prop), Inv X pins σ H s → Vals vs us → t vs σ H Q →
    wpAny (model X.prog X.w) X.A (assignInOrder ((assignEach ts X.env).map (·.2)) us) (fun _ s' => ∃ σ' H', Inv X pins σ' H' s' ∧ Q σ' H') X.xe s
/-- o[i] = v, by values -/
abbrev TSet := V → V → V → Hp → (Hp → Prop) → Prop
def PSet (X : Cx) (t : TSet) : Prop :=
  ∀ (pins : List (Addr × Obj)) (s : Shared) (σ : St) (H : Hp) (o i v : V) (ov iv u : Value) (Q : Hp → Prop), Inv X pins σ H s → RelV o ov → RelV i iv → RelV v u → t o i v H Q →
    wpAny (model X.prog X.w) X.A (setItem ov iv u) (fun _ s' => ∃ H', Inv X pins σ H' s' ∧ Q H') X.xe s
/-- a op= b, by values -/
abbrev TIp := V → V → Hp → VK → Prop
def PIp (X : Cx) (op : Operator) (t : TIp) : Prop :=
  ∀ (pins : List (Addr × Obj)) (s : Shared) (σ : St) (H : Hp) (x y : V) (v u : Value) (Q : VK), Inv X pins σ H s → RelV x v → RelV y u → t x y H Q →
    wpAny (model X.prog X.w) X.A (inplaceOp op v u) (EP X pins σ Q) X.xe s
section
variable {X : Cx} {pos : Pos}
def gName (i : Nat) : TG := fun v σ H Q => Q (σ.set i (some v)) H
theorem pg_name {i : Nat} {x : Str} (hN : X.N.Nodup) (hi : X.N[i]? = some x) (hx : Loc X.env.scope x) (hf : X.fn x = true ∨ X.env.scope.names.lookup x = some .local := by first | exact .inl rfl | exact .inr rfl | assumption) : PG X (.Name x pos) (gName i) := by
  intro pins s σ H v u Q I r h
  exact wpAny_assign_Name (store_ok I hN hi hx r (fun s' I' => ⟨_, H, I', h⟩) hf)
def gNil : TGs := fun vs σ H Q => vs = [] ∧ Q σ H
def gCons (t : TG) (u : TGs) : TGs := fun vs σ H Q => ∃ v r, vs = v :: r ∧ t v σ H fun σ' H' => u r σ' H' Q
theorem pgs_nil : PGs X [] gNil := by
  intro pins s σ H vs us Q I r h
  obtain ⟨e, h⟩ := h
  subst e
  cases r
  exact assignInOrder_nil ⟨σ, H, I, h⟩
theorem pgs_cons {e : Expr} {es : List Expr} {t : TG} {u : TGs} (h1 : PG X e t) (h2 : PGs X es u)
    (hs : (assignEach (e :: es) X.env).map (·.2) = assign e X.env :: (assignEach es X.env).map (·.2) := by rfl) : PGs X (e :: es) (gCons t u) := by
  intro pins s σ H vs us Q I r h
  obtain ⟨v, vr, e1, h⟩ := h
  subst e1
  cases r with
  | cons r rr =>
    rw [hs]
    refine assignInOrder_cons (thn (h1 pins s σ H _ _ _ I r h) fun _ s1 ⟨σ1, H1, I1, q1⟩ => ?_)
    exact h2 pins s1 σ1 H1 _ _ Q I1 rr q1
/-- (a, b, ..) = a tuple of that length -/
def gTup (K : PySem.W.Frag) (n : Nat) (t : TGs) : TG := fun v σ H Q => ∃ a xs, v = .ref a ∧ SqT K H a xs ∧ xs.length = n ∧ t xs σ H Q
theorem pg_tup {es : List Expr} {k : Nat} {t : TGs} {n : Nat} (hc : X.calm = true) (h : PGs X es t)
    (hn : (assignEach es X.env).length = n := by rfl) (hst : (assignEach es X.env).findIdx? (·.1) = none := by rfl) : PG X (.Tuple es k pos) (gTup X.K n t) := by
  intro pins s σ H v u Q I r hw
  obtain ⟨a, xs, e1, hq, hl, hw⟩ := hw
  subst e1
  cases r
  obtain ⟨its, rv, ht, hz⟩ := I.tuple hq
  refine assign_Tuple_tuple (I.ok.hd hc) ht (by simp [hn, ← hl, rv.length]) hst fun h' hx => ?_
  have I1 : Inv X pins σ H { s with heap := h' } := I.kept (t' := s.toks) fun b o e => hx b o (Nat.ne_of_lt (Heap.lt_size e)) e
  exact h pins _ σ H xs _ Q I1 (by simpa using rv) hw
/-- target = value -/
def tAsg (te : TE) (g : TG) : TS := fun D σ H => te σ H fun x H1 => g x σ H1 D.nx
theorem ps_asg {tg e : Expr} {te : TE} {g : TG} (he : PE X e te) (hg : PG X tg g) (hs : swapsWithSole [tg] e pos.line X.env = pure false := by rfl) (hw : swappedStores [tg] e X.env = pure none := by rfl)
    (h1 : (assignEach [tg] X.env).map (·.2) = [assign tg X.env] := by rfl) : PS X (.Assign [tg] e pos) (tAsg te g) := by
  intro pins s σ H D I h
  refine wpAny_Assign_stores (thn (he pins s σ H _ I h) fun v s1 ⟨x, H1, I1, r1, q1⟩ => ?_) hs hw
  rw [h1]
  exact thn (hg pins s1 σ H1 x v _ I1 r1 q1) fun _ s2 q => q
/-- name = value -/
theorem ps_set {i : Nat} {x : Str} {e : Expr} {te : TE} {pos' : Pos} (hN : X.N.Nodup) (hi : X.N[i]? = some x) (hx : Loc X.env.scope x) (he : PE X e te) (hs : swapsWith e (some (.Name x pos')) pos.line X.env = pure false := by rfl) (hf : X.fn x = true ∨ X.env.scope.names.lookup x = some .local := by first | exact .inl rfl | exact .inr rfl | assumption) :
    PS X (.Assign [.Name x pos'] e pos) (tAsg te (gName i)) := by
  intro pins s σ H D I h
  refine wpAny_Assign_Name (thn (he pins s σ H _ I h) fun v s1 ⟨y, H1, I1, r1, q1⟩ => ?_) hs
  exact store_ok I1 hN hi hx r1 (fun s2 I2 => ⟨_, H1, I2, q1⟩) hf
/-- a, b = x, y with plain local names: stored from the right; the pair itself is not tracked (the opening rows as in PyProof/Rows/TupAssign.lean:23) -/
def tPar (i j : Nat) (ta : TA) : TS := fun D σ H => ta σ H fun vs H1 => ∃ v w, vs = [v, w] ∧ D.nx ((σ.set i (some v)).set j (some w)) H1
theorem ps_par {i j : Nat} {x y : Str} {a b : Expr} {ta : TA} {px py pt : Pos} {kt k2 pt2} (hc : X.calm = true) (hN : X.N.Nodup) (hi : X.N[i]? = some x) (hj : X.N[j]? = some y) (hij : i ≠ j)
    (hx : X.env.scope.names.lookup x = some .local) (hy : X.env.scope.names.lookup y = some .local) (ha : PA X [a, b] ta)
    (hw : swappedStores [.Tuple [.Name x px, .Name y py] kt pt] (.Tuple [a, b] k2 pt2) X.env = pure (some [x, y]))
    (hs : swapsWithSole [.Tuple [.Name x px, .Name y py] kt pt] (.Tuple [a, b] k2 pt2) pos.line X.env = pure false := by rfl) :
    PS X (.Assign [.Tuple [.Name x px, .Name y py] kt pt] (.Tuple [a, b] k2 pt2) pos) (tPar i j ta) := by
  intro pins s σ H D I h
  rw [exec_Assign_arm]
  refine wpAny_bind (wpAny_standAt ?_)
  rw [hs]
  refine wpAny_bind (wpAny_pure ?_)
  rw [if_neg (by decide)]
  refine wpAny_bind (Tuple_ (thn (ha _ pins s σ H _ I h) fun us s1 ⟨vs, H1, I1, r1, q1⟩ => ?_))
  obtain ⟨v, w, e1, q1⟩ := q1
  subst e1
  obtain ⟨u1, u2, rfl, rv, rw'⟩ : ∃ u1 u2, us = [u1, u2] ∧ RelV v u1 ∧ RelV w u2 := by
    cases r1 with
    | cons p q =>
      cases q with
      | cons p' q' =>
        cases q'
        exact ⟨_, _, rfl, p, p'⟩
  refine wpAny_newObj_type ?_ (by show 2 ≤ sizeLine; decide)
  have I2 : Inv X pins σ H1 { s1 with heap := s1.heap.push { cls := .type "tuple", data := .seq [u1, u2].toArray } } := I1.kept (t' := s1.toks) fun b o e => Heap.get?_push_of_some _ e
  rw [hw]
  refine wpAny_bind (wpAny_pure ?_)
  show wpAny (model X.prog X.w) X.A (do rule "assign.swapped-stores"; let items ← unpackItems (.ref s1.heap.objs.size) 2 none; assignInOrder [fun v => bindName X.env y v, fun v => bindName X.env x v] items.reverse; pure Flow.next) _ _ _
  refine wpAny_bind (wpAny_rule (wpAny_bind (unpackItems_tuple (items := #[u1, u2]) (I.ok.hd hc) (IsTup.new s1.heap _) fun h' hx' => ?_)))
  have I3 := I2.kept (h' := h') (t' := s1.toks) fun b o e => hx' b o (Nat.ne_of_lt (Heap.lt_size e)) e
  show wpAny _ _ (assignInOrder [fun v => bindName X.env y v, fun v => bindName X.env x v] [u2, u1] >>= fun _ => pure Flow.next) _ _ _
  refine wpAny_bind (assignInOrder_cons (wpAny_bindName (store_ok I3 hN hj (.inl hy) rw' (fun s2 I4 => ?_) (.inr hy))))
  refine assignInOrder_cons (wpAny_bindName (store_ok I4 hN hi (.inl hx) rv (fun s3 I5 => assignInOrder_nil (wpAny_pure ?_)) (.inr hx)))
  rw [List.set_comm _ _ (Ne.symm hij)] at I5
  exact ⟨_, H1, I5, q1⟩
/-- o[i] op= e -/
def tAugS (to ti te : TE) (tget : V → V → Hp → VK → Prop) (tip : TIp) (tset : TSet) : TS := fun D σ H => to σ H fun o H1 => ti σ H1 fun i H2 => tget o i H2 fun x H3 => te σ H3 fun y H4 => tip x y H4 fun z H5 => tset o i z H5 fun H6 => D.nx σ H6
/-- o[i], by values -/
def PGet (X : Cx) (t : V → V → Hp → VK → Prop) : Prop :=
  ∀ (pins : List (Addr × Obj)) (s : Shared) (σ : St) (H : Hp) (o i : V) (ov iv : Value) (Q : VK), Inv X pins σ H s → RelV o ov → RelV i iv → t o i H Q →
    wpAny (model X.prog X.w) X.A (getItem ov iv) (EP X pins σ Q) X.xe s
theorem ps_augS {o i e : Expr} {to ti te : TE} {tget : V → V → Hp → VK → Prop} {tip : TIp} {tset : TSet} {op : Operator} {tpos : Pos} (ho : PE X o to) (hi : PE X i ti) (hg : PGet X tget) (he : PE X e te) (hp : PIp X op tip) (hs : PSet X tset)
    (ha : ∀ ov iv new, augStore i ov iv new = (do holding [new, ov, iv] (setItem ov iv new); release [new, ov, iv] []; pure .next) := by intros; rfl) : PS X (.AugAssign (.Subscript o i tpos) op e pos) (tAugS to ti te tget tip tset) := by
  intro pins s σ H D I h
  refine wpAny_AugAssign_SubscriptAny (thn (ho pins s σ H _ I h) fun ov s1 ⟨x1, H1, I1, r1, q1⟩ => ?_) ha
  refine thn (hi pins s1 σ H1 _ I1 q1) fun iv s2 ⟨x2, H2, I2, r2, q2⟩ => ?_
  refine thn (hg pins s2 σ H2 x1 x2 ov iv _ I2 r1 r2 q2) fun old s3 ⟨x3, H3, I3, r3, q3⟩ => ?_
  refine thn (he pins s3 σ H3 _ I3 q3) fun v s4 ⟨x4, H4, I4, r4, q4⟩ => ?_
  refine thn (hp pins s4 σ H4 x3 x4 old v _ I4 r3 r4 q4) fun new s5 ⟨x5, H5, I5, r5, q5⟩ => ?_
  exact thn (hs pins s5 σ H5 x1 x2 x5 ov iv new _ I5 r1 r2 r5 q5) fun _ s6 ⟨H6, I6, q6⟩ => ⟨σ, H6, I6, q6⟩
/-- ints -/
def ipI (f : Int → Int → Int) : TIp := fun x y H Q => ∃ i j, x = .int i ∧ y = .int j ∧ Q (.int (f i j)) H
theorem ip_add : PIp X .Add (ipI fun i j => i + j) := by
  intro pins s σ H x y v u Q I r1 r2 h
  obtain ⟨i, j, e1, e2, q⟩ := h
  subst e1; subst e2
  obtain ⟨t, rfl⟩ := r1
  obtain ⟨t', rfl⟩ := r2
  exact iadd_int ⟨.int _, H, I.tok _, ⟨_, rfl⟩, q⟩
end

/-! ### while -/
section
variable {X : Cx} {pos : Pos}
/-- the invariant W with its measure -/
def tWhile (c : TT) (tb : TS) : TS := fun D σ H => ∃ W : Nat → St → Hp → Prop, (∃ m, W m σ H) ∧ ∀ m σ H, W m σ H →
  c σ H fun b H1 => if b = true then ∃ N : St → Hp → Prop, (∀ σ' H', N σ' H' → ∃ m', m' < m ∧ W m' σ' H') ∧ tb { D with nx := N, ct := N, bk := D.nx } σ H1 else D.nx σ H1
theorem ps_while {c : Expr} {body : List Stmt} {tc : TT} {tb : TS} (hp : PassesOwn (model X.prog X.w) X.A X.env X.xe) (hc : PT X c tc) (hb : PSs X body tb) : PS X (.While c body [] pos) (tWhile tc tb) := by
  intro pins s σ H D I h
  obtain ⟨W, ⟨m0, w0⟩, turn⟩ := h
  refine wpAny_While (codeAny_whileLoop (fun n s' => ∃ σ' H', Inv X pins σ' H' s' ∧ W n σ' H') ?_ m0 ⟨σ, H, I, w0⟩)
  rintro n s1 ⟨σ1, H1, I1, w1⟩
  refine wpAny_passesOwn hp (thn (hc pins s1 σ1 H1 _ I1 (turn n σ1 H1 w1)) fun b s2 ⟨H2, I2, q2⟩ => ?_)
  cases b with
  | true =>
    obtain ⟨N, hN, q2⟩ := q2
    rw [if_pos rfl]
    refine wpAny_passesOwn hp (thn (hb pins s2 σ1 H2 _ I2 q2) fun f s3 q3 => ?_)
    cases f with
    | next =>
      obtain ⟨σ3, H3, I3, n3⟩ := q3
      obtain ⟨m', hm, w3⟩ := hN σ3 H3 n3
      exact ⟨m', hm, σ3, H3, I3, w3⟩
    | cont =>
      obtain ⟨σ3, H3, I3, n3⟩ := q3
      obtain ⟨m', hm, w3⟩ := hN σ3 H3 n3
      exact ⟨m', hm, σ3, H3, I3, w3⟩
    | brk => exact q3
    | ret v => exact q3
  | false =>
    rw [if_neg Bool.false_ne_true]
    exact wpAny_execs_nil ⟨σ1, H2, I2, q2⟩
end

/-! ### what a loop or a comprehension walks -/
/-- at turn i: it yields x (the heap may grow), or it stops -/
structure It where
  go : Nat → Hp → Prop
  yld : Nat → Hp → V → Hp → Prop
  stop : Nat → Hp → Prop
/-- the iterator's own objects may turn: they are not the frame's, not pinned, younger than the entry (or a comprehension's own) -/
def FpOk (X : Cx) (pins : List (Addr × Obj)) (H : Hp) (b : Addr) : Prop :=
  H b = none ∧ b ≠ X.env.locals ∧ b ∉ X.fs ∧ (b ∈ X.ex ∨ X.s₀.heap.objs.size ≤ b) ∧ (∀ x c, X.env.cells.lookup x = some c → c ≠ b) ∧ ∀ p ∈ X.pn ++ pins, p.1 ≠ b
theorem Inv.fpOk {X : Cx} {pins : List (Addr × Obj)} {σ : St} {H H' : Hp} {s : Shared} {b : Addr} (I : Inv X pins σ H s) (hb : s.heap.objs.size ≤ b) (hn : H' b = none) : FpOk X pins H' b := by
  refine ⟨hn, Nat.ne_of_gt (Nat.lt_of_lt_of_le I.lt hb), I.nofs hb, .inr (Nat.le_trans I.sz hb), fun x c e z => ?_, fun p hp z => ?_⟩
  · obtain ⟨v, q⟩ := I.cell x c e
    exact absurd (Nat.lt_of_lt_of_le q.lt (by rw [z]; exact hb)) (Nat.lt_irrefl _)
  · exact absurd (Nat.lt_of_lt_of_le (Heap.lt_size (I.pin p hp).1) (by rw [z]; exact hb)) (Nat.lt_irrefl _)
structure Turn (P : Program) (w : World) (K : PySem.W.Frag) (tg : Expr) (J : It) (fp : List Addr) (it : Addr) (tn : Nat → Heap → Prop) : Prop where
  mem : it ∈ fp
  obj : ∀ i h, tn i h → ∀ b ∈ fp, ∃ o, h.get? b = some o ∧ ∀ v, o.data ≠ .cell v
  keep : ∀ i h h', tn i h → (∀ b ∈ fp, ∀ o, h.get? b = some o → h'.get? b = some o) → tn i h'
  item : ∀ (X : Cx), X.prog = P → X.w = w → X.K = K → X.calm = true → ∀ (i : Nat) (pins : List (Addr × Obj)) (s : Shared) (σ : St) (H : Hp) (E : Value → Shared → Prop), Inv X pins σ H s → (∀ b ∈ fp, FpOk X pins H b) → tn i s.heap → J.go i H →
    wpAny (model P w) X.A (pyNext (.ref it)) (fun r s1 => ∃ u, r = some u ∧
      wpAny (model P w) X.A (letOwnedTupleGo tg (.ref it) u) (fun _ s2 => ∃ x H', Inv X pins σ H' s2 ∧ RelV x u ∧ J.yld i H x H' ∧ tn (i + 1) s2.heap ∧ ∀ b ∈ fp, H' b = none) E s1) E s
  done : ∀ (X : Cx), X.prog = P → X.w = w → X.K = K → X.calm = true → ∀ (i : Nat) (pins : List (Addr × Obj)) (s : Shared) (σ : St) (H : Hp) (E : Value → Shared → Prop), Inv X pins σ H s → (∀ b ∈ fp, FpOk X pins H b) → tn i s.heap → J.stop i H →
    wpAny (model P w) X.A (pyNext (.ref it)) (fun r s1 => r = none ∧ Inv X pins σ H s1) E s
  self : ∀ (A : Around) (i : Nat) (s : Shared) (Q : Value → Shared → Prop) (E : Value → Shared → Prop), tn i s.heap → Q (.ref it) s → wpAny (model P w) A (pyIter (.ref it)) Q E s
abbrev TI := St → Hp → (It → Hp → Prop) → Prop
/-- an iterator has come -/
def PIE (X : Cx) (pins : List (Addr × Obj)) (σ : St) (tg : Expr) (R : It → Hp → Prop) (itv : Value) (s2 : Shared) : Prop :=
  ∃ (it : Addr) (fp : List Addr) (tn : Nat → Heap → Prop) (J : It) (H' : Hp), itv = .ref it ∧ Inv X pins σ H' s2 ∧ Turn X.prog X.w X.K tg J fp it tn ∧ tn 0 s2.heap ∧ (∀ b ∈ fp, FpOk X pins H' b) ∧ R J H'
def PI (X : Cx) (tg iter : Expr) (wi : TI) : Prop :=
  ∀ (pins : List (Addr × Obj)) (s : Shared) (σ : St) (H : Hp) (R : It → Hp → Prop), Inv X pins σ H s → wi σ H R →
    wpAny (model X.prog X.w) X.A (eval iter X.env) (fun v s1 => wpAny (model X.prog X.w) X.A (pyIter v) (PIE X pins σ tg R) X.xe s1) X.xe s

/-- the step ahead of the store is nothing for an iterator that keeps no tuple -/
theorem go_of {M : Model} {A : Around} {E : Value → Shared → Prop} {s : Shared} {tg : Expr} {it : Addr} {u : Value} {o : Obj} {n : String} {vs : Array Value} {Q : Unit → Shared → Prop} (ho : s.heap.get? it = some o) (hc : o.cls = .type n) (hd : o.data = .fields vs)
    (hn : ["enumerate", "zip", "dict_itemiterator", "dict_reverseitemiterator", "odict_iterator", "itertools.zip_longest", "itertools.pairwise"].contains n = false) (hQ : Q () s) : wpAny M A (letOwnedTupleGo tg (.ref it) u) Q E s := by
  unfold letOwnedTupleGo
  cases tg <;> first
    | exact wpAny_pure hQ
    | (cases u <;> first
        | exact wpAny_pure hQ
        | (refine wpAny_bind (wpAny_load ho ?_)
           rw [hc, hd]
           show wpAny M A (if (["enumerate", "zip", "dict_itemiterator", "dict_reverseitemiterator", "odict_iterator", "itertools.zip_longest", "itertools.pairwise"].contains n && vs[0]? == some (rawInt _)) = true then _ else _) Q E s
           rw [if_neg (by intro h; rw [hn, Bool.false_and] at h; cases h)]
           exact wpAny_pure hQ))

/-- the list at a, as it stands at each turn (a loop may append to it) -/
def Itl (K : PySem.W.Frag) (a : Addr) : It :=
  ⟨fun i H => ∃ xs x, SqL K H a xs ∧ xs[i]? = some x, fun i H x H' => H' = H ∧ ∀ xs, SqL K H a xs → xs[i]? = some x, fun i H => ∃ xs, SqL K H a xs ∧ xs.length ≤ i⟩
def Itt (K : PySem.W.Frag) (a : Addr) : It :=
  ⟨fun i H => ∃ xs x, SqT K H a xs ∧ xs[i]? = some x, fun i H x H' => H' = H ∧ ∀ xs, SqT K H a xs → xs[i]? = some x, fun i H => ∃ xs, SqT K H a xs ∧ xs.length ≤ i⟩
/-- lo, lo + 1, .. (n of them) -/
def Itr (lo : Int) (n : Nat) : It := ⟨fun i _ => i < n, fun i H x H' => H' = H ∧ x = .int (lo + i), fun i _ => n ≤ i⟩
theorem turn_list {P : Program} {w : World} {K : PySem.W.Frag} {tg : Expr} (a it : Addr) : Turn P w K tg (Itl K a) [it] it (fun i h => h.IsListIter it a i) where
  mem := by simp
  obj := fun i h st b hb => by
    have e : b = it := by simpa using hb
    subst e
    obtain ⟨o, e, c, d⟩ := st
    exact ⟨o, e, fun v z => by rw [d] at z; cases z⟩
  keep := fun i h h' st k => st.at fun o e => k it (by simp) o e
  item := by
    intro X hP hw hK hc i pins s σ H E I hf st hg
    subst hP hw hK
    obtain ⟨xs, x, hq, hx⟩ := hg
    obtain ⟨its, rv, p, hz⟩ := I.list hq
    obtain ⟨u, hu, ru⟩ := rv.get hx
    obtain ⟨f0, f1, f2, f3, f4, f5⟩ := hf it (by simp)
    refine wpAny_pyNext_list_item st p.isList (x := u) (by simpa using hu) fun h' st' sb => ?_
    have I1 : Inv X pins σ H { s with heap := h' } := I.turned (t' := s.toks) (fun b o hb e => (sb.2 b hb).trans e) f0 f1 f3 f4 f5
    obtain ⟨o, e, c, d⟩ := id st'
    exact ⟨u, rfl, go_of (s := { s with heap := h' }) e c d (by decide) ⟨x, H, I1, ru, ⟨rfl, fun ys hy => by rw [I.list_inj hy hq]; exact hx⟩, st', fun b hb => (hf b hb).1⟩⟩
  done := by
    intro X hP hw hK hc i pins s σ H E I hf st hg
    subst hP hw hK
    obtain ⟨xs, hq, hx⟩ := hg
    obtain ⟨its, rv, p, hz⟩ := I.list hq
    obtain ⟨f0, f1, f2, f3, f4, f5⟩ := hf it (by simp)
    have hl := rv.length
    exact wpAny_pyNext_list_end (I.ok.hd hc) st p.isList (by simp; omega) fun h' eb => ⟨rfl, I.turned (t' := s.toks) (fun b o hb e => eb b o hb e) f0 f1 f3 f4 f5⟩
  self := fun _ _ _ _ _ st h => wpAny_pyIter_listiter st h
theorem turn_tuple {P : Program} {w : World} {K : PySem.W.Frag} {tg : Expr} (a it : Addr) : Turn P w K tg (Itt K a) [it] it (fun i h => h.IsTupleIter it a i) where
  mem := by simp
  obj := fun i h st b hb => by
    have e : b = it := by simpa using hb
    subst e
    obtain ⟨o, e, c, d⟩ := st
    exact ⟨o, e, fun v z => by rw [d] at z; cases z⟩
  keep := fun i h h' st k => st.at fun o e => k it (by simp) o e
  item := by
    intro X hP hw hK hc i pins s σ H E I hf st hg
    subst hP hw hK
    obtain ⟨xs, x, hq, hx⟩ := hg
    obtain ⟨its, rv, p, hz⟩ := I.tuple hq
    obtain ⟨u, hu, ru⟩ := rv.get hx
    obtain ⟨f0, f1, f2, f3, f4, f5⟩ := hf it (by simp)
    refine wpAny_pyNext_tuple_item st (show s.heap.IsTuple a its.toArray from p) (x := u) (by simpa using hu) fun h' st' sb => ?_
    have I1 : Inv X pins σ H { s with heap := h' } := I.turned (t' := s.toks) (fun b o hb e => (sb.2 b hb).trans e) f0 f1 f3 f4 f5
    obtain ⟨o, e, c, d⟩ := id st'
    exact ⟨u, rfl, go_of (s := { s with heap := h' }) e c d (by decide) ⟨x, H, I1, ru, ⟨rfl, fun ys hy => by rw [I.tuple_inj hy hq]; exact hx⟩, st', fun b hb => (hf b hb).1⟩⟩
  done := by
    intro X hP hw hK hc i pins s σ H E I hf st hg
    subst hP hw hK
    obtain ⟨xs, hq, hx⟩ := hg
    obtain ⟨its, rv, p, hz⟩ := I.tuple hq
    obtain ⟨f0, f1, f2, f3, f4, f5⟩ := hf it (by simp)
    have hl := rv.length
    exact wpAny_pyNext_tuple_end (I.ok.hd hc) st (show s.heap.IsTuple a its.toArray from p) (by simp; omega) fun h' eb => ⟨rfl, I.turned (t' := s.toks) (fun b o hb e => eb b o hb e) f0 f1 f3 f4 f5⟩
  self := fun _ _ _ _ _ st h => wpAny_pyIter_tupleiter st h
theorem turn_range {P : Program} {w : World} {K : PySem.W.Frag} {tg : Expr} (it : Addr) (lo : Int) (n : Nat) : Turn P w K tg (Itr lo n) [it] it (fun i h => IsRangeIter h it (lo + (i : Nat) * 1) ((n : Int) - (i : Nat)) 1) where
  mem := by simp
  obj := fun i h st b hb => by
    have e : b = it := by simpa using hb
    subst e
    exact ⟨_, st, fun v z => by
      have z' : Data.fields _ = Data.cell v := z
      cases z'⟩
  keep := fun i h h' st k => k it (by simp) _ st
  item := by
    intro X hP hw hK hc i pins s σ H E I hf st hg
    subst hP hw hK
    obtain ⟨f0, f1, f2, f3, f4, f5⟩ := hf it (by simp)
    have W := Walks.range (prog := X.prog) (w := X.w) (I.ok.hd hc) it lo 1 n
    refine W.item i s _ _ hg st fun v h' tk hv st' kk => ?_
    obtain ⟨t, rfl⟩ := hv
    have I1 : Inv X pins σ H { s with heap := h', toks := tk } := I.turned (fun b o hb e => kk b o (by simpa using hb) e) f0 f1 f3 f4 f5
    refine ⟨_, rfl, go_of (s := { s with heap := h', toks := tk }) (n := "range_iterator") st' rfl rfl (by decide) ⟨.int (lo + i), H, I1, ⟨t, ?_⟩, ⟨rfl, rfl⟩, st', fun b hb => (hf b hb).1⟩⟩
    rw [Int.mul_one]
  done := by
    intro X hP hw hK hc i pins s σ H E I hf st hg
    subst hP hw hK
    obtain ⟨f0, f1, f2, f3, f4, f5⟩ := hf it (by simp)
    exact wpAny_pyNext_range_end (I.ok.hd hc) st (by have : n ≤ i := hg; omega) fun h' eb => ⟨rfl, I.turned (t' := s.toks) (fun b o hb e => eb b o hb e) f0 f1 f3 f4 f5⟩
  self := fun _ _ _ _ _ st h => wpAny_pyIter_rangeiter st h
end L2

namespace L2
open PySem PySem.Spec PyProof.Rows
section
variable {X : Cx} {tg : Expr}
def iList (K : PySem.W.Frag) (tl : TE) : TI := fun σ H R => tl σ H fun x H1 => ∃ a, x = .ref a ∧ (∃ xs, SqL K H1 a xs) ∧ R (Itl K a) H1
def iTup (K : PySem.W.Frag) (tl : TE) : TI := fun σ H R => tl σ H fun x H1 => ∃ a, x = .ref a ∧ (∃ xs, SqT K H1 a xs) ∧ R (Itt K a) H1
theorem pi_list {l : Expr} {tl : TE} (hl : PE X l tl) : PI X tg l (iList X.K tl) := by
  intro pins s σ H R I h
  refine thn (hl pins s σ H _ I h) fun v s1 ⟨x, H1, I1, r1, q1⟩ => ?_
  obtain ⟨a, e, ⟨xs, hq⟩, q⟩ := q1
  subst e
  cases r1
  obtain ⟨its, rv, p, hz⟩ := I1.list hq
  refine wpAny_pyIter_list p.isList ?_
  refine ⟨s1.heap.objs.size, [s1.heap.objs.size], _, _, H1, rfl, I1.kept (t' := s1.toks) fun b o e => Heap.get?_push_of_some _ e, turn_list a _, ⟨_, Heap.get?_push_size _ rfl, rfl, rfl⟩, fun b hb => ?_, q⟩
  have e : b = s1.heap.objs.size := by simpa using hb
  subst e
  exact I1.fpOk (Nat.le_refl _) (I1.hok.fresh (Nat.le_refl _))
theorem pi_tup {l : Expr} {tl : TE} (hl : PE X l tl) : PI X tg l (iTup X.K tl) := by
  intro pins s σ H R I h
  refine thn (hl pins s σ H _ I h) fun v s1 ⟨x, H1, I1, r1, q1⟩ => ?_
  obtain ⟨a, e, ⟨xs, hq⟩, q⟩ := q1
  subst e
  cases r1
  obtain ⟨its, rv, p, hz⟩ := I1.tuple hq
  refine wpAny_pyIter_tuple (show s1.heap.IsTuple a its.toArray from p) ?_
  refine ⟨s1.heap.objs.size, [s1.heap.objs.size], _, _, H1, rfl, I1.kept (t' := s1.toks) fun b o e => Heap.get?_push_of_some _ e, turn_tuple a _, ⟨_, Heap.get?_push_size _ rfl, rfl, rfl⟩, fun b hb => ?_, q⟩
  have e : b = s1.heap.objs.size := by simpa using hb
  subst e
  exact I1.fpOk (Nat.le_refl _) (I1.hok.fresh (Nat.le_refl _))
/-- a range object just made, walked -/
theorem range_it {pins : List (Addr × Obj)} {σ : St} {H : Hp} {s : Shared} {R : It → Hp → Prop} {E : Value → Shared → Prop} {lo hi : Int} {t u v : Tok} {tk : Nat} (I : Inv X pins σ H s) (h1 : -(2 ^ 62) ≤ lo) (h2 : lo < 2 ^ 62) (h3 : -(2 ^ 62) ≤ hi) (h4 : hi < 2 ^ 62)
    (q : R (Itr lo (hi - lo).toNat) H) : wpAny (model X.prog X.w) X.A (pyIter (.ref s.heap.objs.size)) (PIE X pins σ tg R) E { s with heap := s.heap.push { cls := .type "range", data := .fields #[.int lo t, .int hi u, .int 1 v] }, toks := tk } := by
  refine wpAny_pyIter_range (IsRange.new ..) (small_one h1 h2 h3 h4) ?_
  have I1 : Inv X pins σ H { s with heap := s.heap.push { cls := .type "range", data := .fields #[.int lo t, .int hi u, .int 1 v] }, toks := tk } := I.kept fun b o e => Heap.get?_push_of_some _ e
  refine ⟨(s.heap.push { cls := .type "range", data := .fields #[.int lo t, .int hi u, .int 1 v] }).objs.size, [(s.heap.push { cls := .type "range", data := .fields #[.int lo t, .int hi u, .int 1 v] }).objs.size], _, _, H, rfl,
    I1.kept (t' := tk) fun b o e => Heap.get?_push_of_some _ e, turn_range _ lo (hi - lo).toNat, ?_, fun b hb => ?_, q⟩
  · have e1 : lo + ((0 : Nat) : Int) * 1 = lo := by simp
    have e2 : (((hi - lo).toNat : Nat) : Int) - ((0 : Nat) : Int) = Builtin.Range.rangeSize lo hi 1 := by rw [rangeSize_one]; split <;> omega
    show IsRangeIter _ _ (lo + ((0 : Nat) : Int) * 1) ((((hi - lo).toNat : Nat) : Int) - ((0 : Nat) : Int)) 1
    rw [e1, e2]
    exact Heap.get?_push_size _ rfl
  · have e : b = (s.heap.push { cls := .type "range", data := .fields #[.int lo t, .int hi u, .int 1 v] }).objs.size := by simpa using hb
    subst e
    exact I1.fpOk (Nat.le_refl _) (I1.hok.fresh (Nat.le_refl _))
def iRng1 (ta : TA) : TI := fun σ H R => ta σ H fun vs H1 => ∃ j : Int, vs = [.int j] ∧ -(2 ^ 62) ≤ j ∧ j < 2 ^ 62 ∧ R (Itr 0 j.toNat) H1
def iRng2 (ta : TA) : TI := fun σ H R => ta σ H fun vs H1 => ∃ i j : Int, vs = [.int i, .int j] ∧ (-(2 ^ 62) ≤ i ∧ i < 2 ^ 62 ∧ -(2 ^ 62) ≤ j ∧ j < 2 ^ 62) ∧ R (Itr i (j - i).toNat) H1
theorem pi_range1 {a : Expr} {ta : TA} {p pos : Pos} (hg : Gl X "range") (hm : X.mg "range" = none) (ha : PA X [a] ta) (hs : starEach [a] X.env = [(false, eval a X.env)] := by rfl) : PI X tg (.Call (.Name "range" p) [a] [] pos) (iRng1 ta) := by
  intro pins s σ H R I h
  refine Call_ (ld_blt I hg hm boot_range (PyProof.Rows.callWith_type1 (thn (ha pos pins s σ H _ I h) fun us s1 ⟨vs, H1, I1, r1, q1⟩ => ?_) hs rfl))
  obtain ⟨j, e, q1, q2, q⟩ := q1
  subst e
  cases r1 with
  | cons r rr =>
    cases rr
    obtain ⟨t, rfl⟩ := r
    exact call_range_1 (range_it I1 (by omega) (by omega) q1 q2 (by simpa using q))
theorem pi_range2 {a b : Expr} {ta : TA} {p pos : Pos} (hg : Gl X "range") (hm : X.mg "range" = none) (ha : PA X [a, b] ta) (hs : starEach [a, b] X.env = [(false, eval a X.env), (false, eval b X.env)] := by rfl) (hs2 : starEach [b] X.env = [(false, eval b X.env)] := by rfl) :
    PI X tg (.Call (.Name "range" p) [a, b] [] pos) (iRng2 ta) := by
  intro pins s σ H R I h
  refine Call_ (ld_blt I hg hm boot_range (PyProof.Rows.callWith_type1 (thn (ha pos pins s σ H _ I h) fun us s1 ⟨vs, H1, I1, r1, q1⟩ => ?_) (by rw [hs, hs2]) (by rw [hs2]; rfl)))
  obtain ⟨i, j, e, ⟨q1, q2, q3, q4⟩, q⟩ := q1
  subst e
  cases r1 with
  | cons r rr =>
    cases rr with
    | cons r' rr =>
      cases rr
      obtain ⟨t, rfl⟩ := r
      obtain ⟨t', rfl⟩ := r'
      exact call_range_2 (range_it I1 q1 q2 q3 q4 q)

/-! ### for -/
/-- W: the invariant by the turn and a measure; N: what the body is to reach -/
def tFor (wi : TI) (g : TG) (tb : TS) : TS := fun D σ H => wi σ H fun J H1 => ∃ W : Nat → Nat → St → Hp → Prop, (∃ m, W 0 m σ H1) ∧ ∀ i m σ H, W i m σ H →
  (J.stop i H ∧ D.nx σ H) ∨ (J.go i H ∧ ∃ N : St → Hp → Prop, (∀ σ' H', N σ' H' → ∃ m', m' < m ∧ W (i + 1) m' σ' H') ∧ ∀ x H', J.yld i H x H' → g x σ H' fun σ2 H2 => tb { D with nx := N, ct := N, bk := D.nx } σ2 H2)
/-- the records at fp as they stand -/
def pinsAt (fp : List Addr) (h : Heap) : List (Addr × Obj) := fp.filterMap fun b => (h.get? b).map fun o => (b, o)
theorem mem_pinsAt {fp : List Addr} {h : Heap} {b : Addr} {o : Obj} (hb : b ∈ fp) (e : h.get? b = some o) : (b, o) ∈ pinsAt fp h := List.mem_filterMap.mpr ⟨b, hb, by rw [e]; rfl⟩
theorem of_pinsAt {fp : List Addr} {h : Heap} {p : Addr × Obj} (hp : p ∈ pinsAt fp h) : p.1 ∈ fp ∧ h.get? p.1 = some p.2 := by
  obtain ⟨b, hb, e⟩ := List.mem_filterMap.mp hp
  cases q : h.get? b with
  | none => rw [q] at e; cases e
  | some o =>
    rw [q] at e
    have e' : (b, o) = p := Option.some.inj e
    subst e'
    exact ⟨hb, q⟩
theorem Inv.pinned {pins : List (Addr × Obj)} {σ : St} {H : Hp} {s : Shared} {fp : List Addr} (I : Inv X pins σ H s) (hf : ∀ b ∈ fp, FpOk X pins H b) (ho : ∀ b ∈ fp, ∃ o, s.heap.get? b = some o ∧ ∀ v, o.data ≠ .cell v) : Inv X (pins ++ pinsAt fp s.heap) σ H s :=
  I.pins_of fun p hp => (List.mem_append.mp hp).elim (fun z => I.pin p (List.mem_append_right _ z)) fun z => by
    obtain ⟨hb, e⟩ := of_pinsAt z
    obtain ⟨f0, f1, f2, _⟩ := hf p.1 hb
    obtain ⟨o, e', d⟩ := ho p.1 hb
    rw [e] at e'; cases e'
    exact ⟨e, f0, f1, f2, d⟩
theorem Inv.unpinned {pins pl : List (Addr × Obj)} {σ : St} {H : Hp} {s : Shared} (I : Inv X (pins ++ pl) σ H s) : Inv X pins σ H s := I.pins_of fun p hp => I.pin p (List.mem_append_right _ (List.mem_append_left _ hp))
theorem ps_for {iter : Expr} {body : List Stmt} {wi : TI} {g : TG} {tb : TS} {pos : Pos} (hp : PassesOwn (model X.prog X.w) X.A X.env X.xe) (hc : X.calm = true) (hi : PI X tg iter wi) (hg : PG X tg g) (hb : PSs X body tb)
    (hs : ∀ x, foldedSetIterable iter X.env x = pure x := by intro _; rfl) : PS X (.For tg iter body [] pos) (tFor wi g tb) := by
  intro pins s σ H D I h
  refine wpAny_For (thn (hi pins s σ H _ I h) fun v s1 h1 => thn h1 fun itv s2 h2 => ?_) hs
  obtain ⟨it, fp, tn, J, H2, e, I2, T, st2, f2, W, ⟨m0, w0⟩, turn⟩ := h2
  subst e
  -- what stays true of the iterator's objects through the loop
  have stat : ∀ {H' : Hp}, (∀ b ∈ fp, H' b = none) → ∀ b ∈ fp, FpOk X pins H' b := fun hn b hb => ⟨hn b hb, (f2 b hb).2⟩
  refine codeAny_forLoop_any (fun n s' => ∃ i σ' H', Inv X pins σ' H' s' ∧ tn i s'.heap ∧ (∀ b ∈ fp, H' b = none) ∧ W i n σ' H') ?_ m0 ⟨0, σ, H2, I2, st2, fun b hb => (f2 b hb).1, w0⟩
  rintro n s3 ⟨i, σ3, H3, I3, st3, fr3, w3⟩
  rcases turn i n σ3 H3 w3 with ⟨stop, qn⟩ | ⟨go, N, hN, step⟩
  · refine wpAny_passesOwn hp (thn (T.done X rfl rfl rfl hc i pins s3 σ3 H3 X.xe I3 (stat fr3) st3 stop) fun r s4 ⟨hr, I4⟩ => ?_)
    subst hr
    exact wpAny_execs_nil ⟨σ3, H3, I4, qn⟩
  · refine wpAny_passesOwn hp (thn (T.item X rfl rfl rfl hc i pins s3 σ3 H3 X.xe I3 (stat fr3) st3 go) fun r s4 ⟨u, hr, h4⟩ => ?_)
    subst hr
    refine wpAny_passesOwn hp (thn h4 fun _ s5 ⟨x, H5, I5, r5, y5, st5, fr5⟩ => ?_)
    have I5' := I5.pinned (stat fr5) (T.obj _ _ st5)
    refine wpAny_passesOwn hp (thn (hg _ s5 σ3 H5 x u _ I5' r5 (step x H5 y5)) fun _ s6 ⟨σ6, H6, I6, q6⟩ => ?_)
    refine wpAny_passesOwn hp (thn (hb _ s6 σ6 H6 _ I6 q6) fun f s7 q7 => ?_)
    have again : ∀ {σ7 : St} {H7 : Hp}, Inv X (pins ++ pinsAt fp s5.heap) σ7 H7 s7 → N σ7 H7 → ∃ m, m < n ∧ ∃ i σ' H', Inv X pins σ' H' s7 ∧ tn i s7.heap ∧ (∀ b ∈ fp, H' b = none) ∧ W i m σ' H' := fun {σ7 H7} I7 n7 => by
      obtain ⟨m', hm, w7⟩ := hN σ7 H7 n7
      refine ⟨m', hm, i + 1, σ7, H7, I7.unpinned, T.keep _ _ _ st5 fun b hb o e => (I7.pin (b, o) (List.mem_append_right _ (List.mem_append_right _ (mem_pinsAt hb e)))).1, fun b hb => ?_, w7⟩
      obtain ⟨o, e, d⟩ := T.obj _ _ st5 b hb
      exact (I7.pin (b, o) (List.mem_append_right _ (List.mem_append_right _ (mem_pinsAt hb e)))).2.1
    cases f with
    | next => obtain ⟨σ7, H7, I7, n7⟩ := q7; exact again I7 n7
    | cont => obtain ⟨σ7, H7, I7, n7⟩ := q7; exact again I7 n7
    | brk => obtain ⟨σ7, H7, I7, q7⟩ := q7; exact ⟨σ7, H7, I7.unpinned, q7⟩
    | ret v => obtain ⟨x7, σ7, H7, I7, r7, q7⟩ := q7; exact ⟨x7, σ7, H7, I7.unpinned, r7, q7⟩
end

/-! ### the forms one uses -/
/-- over a list that the body leaves as it is -/
theorem for_list {K : PySem.W.Frag} {a : Addr} {xs : List V} {g : TG} {tb : TS} {D : Ends} {σ : St} {H : Hp} (Pv : Nat → St → Hp → Prop) (h0 : Pv 0 σ H) (hl : ∀ i σ H, i ≤ xs.length → Pv i σ H → SqL K H a xs)
    (hs : ∀ i x σ H, xs[i]? = some x → Pv i σ H → g x σ H fun σ2 H2 => tb { D with nx := Pv (i + 1), ct := Pv (i + 1), bk := D.nx } σ2 H2) (hd : ∀ σ H, Pv xs.length σ H → D.nx σ H) :
    ∃ W : Nat → Nat → St → Hp → Prop, (∃ m, W 0 m σ H) ∧ ∀ i m σ H, W i m σ H →
      ((Itl K a).stop i H ∧ D.nx σ H) ∨ ((Itl K a).go i H ∧ ∃ N : St → Hp → Prop, (∀ σ' H', N σ' H' → ∃ m', m' < m ∧ W (i + 1) m' σ' H') ∧ ∀ x H', (Itl K a).yld i H x H' → g x σ H' fun σ2 H2 => tb { D with nx := N, ct := N, bk := D.nx } σ2 H2) := by
  refine ⟨fun i m σ H => m = xs.length - i ∧ i ≤ xs.length ∧ Pv i σ H, ⟨xs.length, by simp, Nat.zero_le _, h0⟩, ?_⟩
  rintro i m σ H ⟨rfl, hi, p⟩
  have q := hl i σ H hi p
  by_cases hlt : i < xs.length
  · refine .inr ⟨⟨xs, xs[i], q, by simp [hlt]⟩, Pv (i + 1), fun σ' H' p' => ⟨xs.length - (i + 1), by omega, rfl, hlt, p'⟩, fun x H' y => ?_⟩
    obtain ⟨e, y⟩ := y
    subst e
    exact hs i x σ _ (y xs q) p
  · have e : i = xs.length := by omega
    subst e
    exact .inl ⟨⟨xs, q, Nat.le_refl _⟩, hd σ H p⟩
theorem for_tup {K : PySem.W.Frag} {a : Addr} {xs : List V} {g : TG} {tb : TS} {D : Ends} {σ : St} {H : Hp} (Pv : Nat → St → Hp → Prop) (h0 : Pv 0 σ H) (hl : ∀ i σ H, i ≤ xs.length → Pv i σ H → SqT K H a xs)
    (hs : ∀ i x σ H, xs[i]? = some x → Pv i σ H → g x σ H fun σ2 H2 => tb { D with nx := Pv (i + 1), ct := Pv (i + 1), bk := D.nx } σ2 H2) (hd : ∀ σ H, Pv xs.length σ H → D.nx σ H) :
    ∃ W : Nat → Nat → St → Hp → Prop, (∃ m, W 0 m σ H) ∧ ∀ i m σ H, W i m σ H →
      ((Itt K a).stop i H ∧ D.nx σ H) ∨ ((Itt K a).go i H ∧ ∃ N : St → Hp → Prop, (∀ σ' H', N σ' H' → ∃ m', m' < m ∧ W (i + 1) m' σ' H') ∧ ∀ x H', (Itt K a).yld i H x H' → g x σ H' fun σ2 H2 => tb { D with nx := N, ct := N, bk := D.nx } σ2 H2) := by
  refine ⟨fun i m σ H => m = xs.length - i ∧ i ≤ xs.length ∧ Pv i σ H, ⟨xs.length, by simp, Nat.zero_le _, h0⟩, ?_⟩
  rintro i m σ H ⟨rfl, hi, p⟩
  have q := hl i σ H hi p
  by_cases hlt : i < xs.length
  · refine .inr ⟨⟨xs, xs[i], q, by simp [hlt]⟩, Pv (i + 1), fun σ' H' p' => ⟨xs.length - (i + 1), by omega, rfl, hlt, p'⟩, fun x H' y => ?_⟩
    obtain ⟨e, y⟩ := y
    subst e
    exact hs i x σ _ (y xs q) p
  · have e : i = xs.length := by omega
    subst e
    exact .inl ⟨⟨xs, q, Nat.le_refl _⟩, hd σ H p⟩
theorem for_range {lo : Int} {n : Nat} {g : TG} {tb : TS} {D : Ends} {σ : St} {H : Hp} (Pv : Nat → St → Hp → Prop) (h0 : Pv 0 σ H)
    (hs : ∀ i σ H, i < n → Pv i σ H → g (.int (lo + i)) σ H fun σ2 H2 => tb { D with nx := Pv (i + 1), ct := Pv (i + 1), bk := D.nx } σ2 H2) (hd : ∀ σ H, Pv n σ H → D.nx σ H) :
    ∃ W : Nat → Nat → St → Hp → Prop, (∃ m, W 0 m σ H) ∧ ∀ i m σ H, W i m σ H →
      ((Itr lo n).stop i H ∧ D.nx σ H) ∨ ((Itr lo n).go i H ∧ ∃ N : St → Hp → Prop, (∀ σ' H', N σ' H' → ∃ m', m' < m ∧ W (i + 1) m' σ' H') ∧ ∀ x H', (Itr lo n).yld i H x H' → g x σ H' fun σ2 H2 => tb { D with nx := N, ct := N, bk := D.nx } σ2 H2) := by
  refine ⟨fun i m σ H => m = n - i ∧ i ≤ n ∧ Pv i σ H, ⟨n, by simp, Nat.zero_le _, h0⟩, ?_⟩
  rintro i m σ H ⟨rfl, hi, p⟩
  by_cases hlt : i < n
  · refine .inr ⟨hlt, Pv (i + 1), fun σ' H' p' => ⟨n - (i + 1), by omega, rfl, hlt, p'⟩, fun x H' y => ?_⟩
    obtain ⟨e, y⟩ := y
    subst e y
    exact hs i σ _ hlt p
  · have e : i = n := by omega
    subst e
    exact .inl ⟨Nat.le_refl _, hd σ H p⟩
end L2

namespace L2
open PySem PySem.Spec PyProof.Rows

abbrev R2 := V → V → Hp → VK → Prop
/-- a two-place operation on values: f is binaryOp op, inplaceOp op or compareOp op -/
def OpR (X : Cx) (f : Value → Value → Sem Value) (r : R2) : Prop :=
  ∀ (pins : List (Addr × Obj)) (s : Shared) (σ : St) (H : Hp) (x y : V) (v u : Value) (Q : VK), Inv X pins σ H s → RelV x v → RelV y u → r x y H Q →
    wpAny (model X.prog X.w) X.A (f v u) (EP X pins σ Q) X.xe s
/-- a one-place operation -/
def UnR (X : Cx) (f : Value → Sem Value) (r : V → Hp → VK → Prop) : Prop :=
  ∀ (pins : List (Addr × Obj)) (s : Shared) (σ : St) (H : Hp) (x : V) (v : Value) (Q : VK), Inv X pins σ H s → RelV x v → r x H Q →
    wpAny (model X.prog X.w) X.A (f v) (EP X pins σ Q) X.xe s
/-- a call of a value that is known (a builtin, a type) with values -/
def CallR (X : Cx) (f : Value) (r : List V → Hp → VK → Prop) : Prop :=
  ∀ (pins : List (Addr × Obj)) (s : Shared) (σ : St) (H : Hp) (xs : List V) (us : List Value) (Q : VK), Inv X pins σ H s → Vals xs us → r xs H Q →
    wpAny (model X.prog X.w) X.A (call f us) (EP X pins σ Q) X.xe s
def tOp (r : R2) (ta tb : TE) : TE := fun σ H Q => ta σ H fun x H1 => tb σ H1 fun y H2 => r x y H2 Q
def tUn (r : V → Hp → VK → Prop) (ta : TE) : TE := fun σ H Q => ta σ H fun x H1 => r x H1 Q
/-- ints in, under C, and a value out -/
def rI (C : Int → Int → Prop) (g : Int → Int → V) : R2 := fun x y H Q => ∃ i j, x = .int i ∧ y = .int j ∧ C i j ∧ Q (g i j) H
def rI0 (g : Int → Int → V) : R2 := fun x y H Q => ∃ i j, x = .int i ∧ y = .int j ∧ Q (g i j) H
def rU (g : Int → V) : V → Hp → VK → Prop := fun x H Q => ∃ i, x = .int i ∧ Q (g i) H

section
variable {X : Cx} {a b c : Expr} {ta tb tc : TE} {pos : Pos}

theorem binT (ha : PE X a ta) (hb : PE X b tb) {pins : List (Addr × Obj)} {s : Shared} {σ : St} {H : Hp} {R : V → V → Hp → Prop} (I : Inv X pins σ H s)
    (h : ta σ H fun x H1 => tb σ H1 fun y H2 => R x y H2) {Q : Value → Shared → Prop} {f : Value → Value → Sem Value}
    (hf : ∀ v u s2 x y H2, Inv X pins σ H2 s2 → RelV x v → RelV y u → R x y H2 → wpAny (model X.prog X.w) X.A (f v u) Q X.xe s2) :
    wpAny (model X.prog X.w) X.A (eval a X.env) (fun v s₁ => wpAny (model X.prog X.w) X.A (eval b X.env) (fun u s₂ => wpAny (model X.prog X.w) X.A (f v u) Q X.xe s₂) X.xe s₁) X.xe s := by
  refine thn (ha pins s σ H _ I h) fun v s1 ⟨x, H1, I1, r1, q1⟩ => ?_
  refine thn (hb pins s1 σ H1 _ I1 q1) fun u s2 ⟨y, H2, I2, r2, q2⟩ => ?_
  exact hf v u s2 x y H2 I2 r1 r2 q2

theorem pe_op {op : Operator} {r : R2} (ho : OpR X (binaryOp op) r) (ha : PE X a ta) (hb : PE X b tb) : PE X (.BinOp a op b pos) (tOp r ta tb) := by
  intro pins s σ H Q I h
  exact wpAny_BinOp (binT ha hb I h fun v u s2 x y H2 I2 rx ry q => ho pins s2 σ H2 x y v u Q I2 rx ry q)
theorem pe_un {op : UnaryOp} {r : V → Hp → VK → Prop} (ho : UnR X (unaryOp op) r) (ha : PE X a ta) : PE X (.UnaryOp op a pos) (tUn r ta) := by
  intro pins s σ H Q I h
  exact UnaryOp_ (thn (ha pins s σ H _ I h) fun v s1 ⟨x, H1, I1, r1, q1⟩ => ho pins s1 σ H1 x v Q I1 r1 q1)
/-! ### ints -/
theorem opI {f : Value → Value → Sem Value} {C : Int → Int → Prop} {g : Int → Int → Int}
    (rule : ∀ (i j : Int) (t u : Tok) (s : Shared) (Q : Value → Shared → Prop) (E : Value → Shared → Prop), C i j → Q (.int (g i j) s.toks) { s with toks := s.toks + 1 } → wpAny (model X.prog X.w) X.A (f (.int i t) (.int j u)) Q E s) :
    OpR X f (rI C fun i j => .int (g i j)) := by
  intro pins s σ H x y v u Q I rx ry h
  obtain ⟨i, j, rfl, rfl, hc, q⟩ := h
  obtain ⟨t, rfl⟩ := rx
  obtain ⟨t', rfl⟩ := ry
  exact rule i j t t' s _ _ hc ⟨.int (g i j), H, I.tok _, ⟨_, rfl⟩, q⟩
theorem opI0 {f : Value → Value → Sem Value} {g : Int → Int → Int}
    (rule : ∀ (i j : Int) (t u : Tok) (s : Shared) (Q : Value → Shared → Prop) (E : Value → Shared → Prop), Q (.int (g i j) s.toks) { s with toks := s.toks + 1 } → wpAny (model X.prog X.w) X.A (f (.int i t) (.int j u)) Q E s) :
    OpR X f (rI0 fun i j => .int (g i j)) := by
  intro pins s σ H x y v u Q I rx ry h
  obtain ⟨i, j, rfl, rfl, q⟩ := h
  obtain ⟨t, rfl⟩ := rx
  obtain ⟨t', rfl⟩ := ry
  exact rule i j t t' s _ _ ⟨.int (g i j), H, I.tok _, ⟨_, rfl⟩, q⟩
theorem opB0 {f : Value → Value → Sem Value} {g : Int → Int → Bool}
    (rule : ∀ (i j : Int) (t u : Tok) (s : Shared) (Q : Value → Shared → Prop) (E : Value → Shared → Prop), Q (.bool (g i j)) s → wpAny (model X.prog X.w) X.A (f (.int i t) (.int j u)) Q E s) :
    OpR X f (rI0 fun i j => .bl (g i j)) := by
  intro pins s σ H x y v u Q I rx ry h
  obtain ⟨i, j, rfl, rfl, q⟩ := h
  obtain ⟨t, rfl⟩ := rx
  obtain ⟨t', rfl⟩ := ry
  exact rule i j t t' s _ _ ⟨.bl (g i j), H, I, rfl, q⟩

def CPow (i j : Int) : Prop := 0 ≤ j ∧ j ≤ 1000000 ∧ i.natAbs < 2 ^ 64
def CMul (i j : Int) : Prop := (-(2 ^ 64) < i ∧ i < 2 ^ 64) ∨ (-(2 ^ 64) < j ∧ j < 2 ^ 64)
theorem CMul.ok {i j : Int} (h : CMul i j) : IntMulOk i j := by
  rcases h with ⟨h1, h2⟩ | ⟨h1, h2⟩
  · exact .of_left (intBits_le_64 h1 h2)
  · exact .of_right (intBits_le_64 h1 h2)
theorem op_add : OpR X (binaryOp .Add) (rI0 fun i j => .int (i + j)) := opI0 fun _ _ _ _ _ _ _ q => add_int q
theorem op_sub : OpR X (binaryOp .Sub) (rI0 fun i j => .int (i - j)) := opI0 fun _ _ _ _ _ _ _ q => sub_int q
theorem op_mul : OpR X (binaryOp .Mult) (rI CMul fun i j => .int (i * j)) := opI fun _ _ _ _ _ _ _ hc q => mul_int q hc.ok
/-- % by a positive divisor of any size -/
theorem op_mod : OpR X (binaryOp .Mod) (rI (fun _ j => 0 < j) fun i j => .int (i % j)) := opI fun i j _ _ _ _ _ hc q => by
  have h1 : (0 : Int) < j := hc
  exact mod_int' (by omega) (by rw [Int.fmod_eq_emod_of_nonneg i (by omega)]; exact q)
theorem op_pow : OpR X (binaryOp .Pow) (rI CPow fun i j => .int (i ^ j.toNat)) := opI fun _ _ _ _ _ _ _ hc q => pow_int_small hc.1 hc.2.1 hc.2.2 q
theorem unI {f : Value → Sem Value} {g : Int → Int}
    (rule : ∀ (i : Int) (t : Tok) (s : Shared) (Q : Value → Shared → Prop) (E : Value → Shared → Prop), Q (.int (g i) s.toks) { s with toks := s.toks + 1 } → wpAny (model X.prog X.w) X.A (f (.int i t)) Q E s) :
    UnR X f (rU fun i => .int (g i)) := by
  intro pins s σ H x v Q I rx h
  obtain ⟨i, rfl, q⟩ := h
  obtain ⟨t, rfl⟩ := rx
  exact rule i t s _ _ ⟨.int (g i), H, I.tok _, ⟨_, rfl⟩, q⟩
theorem un_neg : UnR X (unaryOp .USub) (rU fun i => .int (-i)) := unI fun _ _ _ _ _ q => neg_int q
/-! ### bools among ints: n += (a < b) -/
end

/-! ### comparisons -/
/-- the scalars that == tells apart as data does -/
def scal : V → V → Bool
  | .non, .non => true | .non, .int _ => true | .int _, .non => true | .non, .bl _ => true | .bl _, .non => true | .non, .str _ => true | .str _, .non => true
  | .int _, .int _ => true | .bl _, .bl _ => true | .str _, .str _ => true | .byt _, .byt _ => true
  | .int _, .str _ => true | .str _, .int _ => true | .bl _, .str _ => true | .str _, .bl _ => true
  | _, _ => false
def rEq : R2 := fun x y H Q => scal x y = true ∧ Q (.bl (decide (x = y))) H
def rNe : R2 := fun x y H Q => scal x y = true ∧ Q (.bl (!decide (x = y))) H

theorem dec_int {i j : Int} : decide (V.int i = V.int j) = (i == j) := by
  rw [Bool.eq_iff_iff]
  simp
theorem dec_bl {i j : Bool} : decide (V.bl i = V.bl j) = (i == j) := by
  rw [Bool.eq_iff_iff]
  simp
theorem dec_str {i j : Str} : decide (V.str i = V.str j) = (i == j) := by
  rw [Bool.eq_iff_iff]
  simp
theorem dec_byt {i j : Array UInt8} : decide (V.byt i = V.byt j) = (i.toList == j.toList) := by
  rw [Bool.eq_iff_iff]
  cases i
  cases j
  simp

section
variable {X : Cx} {a b c : Expr} {ta tb tc : TE} {pos : Pos}
theorem fin_bl {pins : List (Addr × Obj)} {σ : St} {H : Hp} {s : Shared} {Q : VK} {k k' : Bool} (I : Inv X pins σ H s) (q : Q (.bl k) H) (e : k = k') : EP X pins σ Q (.bool k') s := by
  subst e
  exact ⟨.bl k, H, I, rfl, q⟩
theorem op_eq : OpR X (compareOp .Eq) rEq := by
  intro pins s σ H x y v u Q I rx ry h
  obtain ⟨hs, q⟩ := h
  cases x with
  | non =>
    cases rx
    cases y with
    | non => cases ry; exact PySem.EqNone.eq_none_none (fin_bl I q (by simp))
    | bl j => cases ry; exact PySem.EqNone.eq_none_bool (fin_bl I q (by simp))
    | int j => obtain ⟨t', rfl⟩ := ry; exact PySem.EqNone.eq_none_int (fin_bl I q (by simp))
    | str j => obtain ⟨t', rfl⟩ := ry; exact PySem.EqNone.eq_none_str (fin_bl I q (by simp))
    | _ => exact absurd (show false = true from hs) Bool.false_ne_true
  | bl i =>
    cases rx
    cases y with
    | non => cases ry; exact PySem.EqNone.eq_bool_none (fin_bl I q (by simp))
    | bl j => cases ry; exact eq_bool (fin_bl I q dec_bl)
    | str j => obtain ⟨t', rfl⟩ := ry; exact PySem.EqMixed.eq_bool_str (fin_bl I q (by simp))
    | _ => exact absurd (show false = true from hs) Bool.false_ne_true
  | int i =>
    obtain ⟨t, rfl⟩ := rx
    cases y with
    | non => cases ry; exact PySem.EqNone.eq_int_none (fin_bl I q (by simp))
    | int j => obtain ⟨t', rfl⟩ := ry; exact eq_int (fin_bl I q dec_int)
    | str j => obtain ⟨t', rfl⟩ := ry; exact PySem.EqMixed.eq_int_str (fin_bl I q (by simp))
    | _ => exact absurd (show false = true from hs) Bool.false_ne_true
  | str i =>
    obtain ⟨t, rfl⟩ := rx
    cases y with
    | non => cases ry; exact PySem.EqNone.eq_str_none (fin_bl I q (by simp))
    | bl j => cases ry; exact PySem.EqMixed.eq_str_bool (fin_bl I q (by simp))
    | int j => obtain ⟨t', rfl⟩ := ry; exact PySem.EqMixed.eq_str_int (fin_bl I q (by simp))
    | str j => obtain ⟨t', rfl⟩ := ry; exact eq_str (fin_bl I q dec_str)
    | _ => exact absurd (show false = true from hs) Bool.false_ne_true
  | byt i =>
    obtain ⟨t, rfl⟩ := rx
    cases y with
    | byt j => obtain ⟨t', rfl⟩ := ry; exact PySem.W.eq_bytes (fin_bl I q dec_byt)
    | _ => exact absurd (show false = true from hs) Bool.false_ne_true
  | _ => cases y <;> exact absurd (show false = true from hs) Bool.false_ne_true
theorem op_ne : OpR X (compareOp .NotEq) rNe := by
  intro pins s σ H x y v u Q I rx ry h
  obtain ⟨hs, q⟩ := h
  cases x with
  | non =>
    cases rx
    cases y with
    | non => cases ry; exact PySem.EqNone.ne_none_none (fin_bl I q (by simp))
    | bl j => cases ry; exact PySem.EqNone.ne_none_bool (fin_bl I q (by simp))
    | int j => obtain ⟨t', rfl⟩ := ry; exact PySem.EqNone.ne_none_int (fin_bl I q (by simp))
    | str j => obtain ⟨t', rfl⟩ := ry; exact PySem.EqNone.ne_none_str (fin_bl I q (by simp))
    | _ => exact absurd (show false = true from hs) Bool.false_ne_true
  | bl i =>
    cases rx
    cases y with
    | non => cases ry; exact PySem.EqNone.ne_bool_none (fin_bl I q (by simp))
    | bl j => cases ry; exact ne_bool (fin_bl I q (congrArg not dec_bl))
    | str j => obtain ⟨t', rfl⟩ := ry; exact PySem.EqMixed.ne_bool_str (fin_bl I q (by simp))
    | _ => exact absurd (show false = true from hs) Bool.false_ne_true
  | int i =>
    obtain ⟨t, rfl⟩ := rx
    cases y with
    | non => cases ry; exact PySem.EqNone.ne_int_none (fin_bl I q (by simp))
    | int j => obtain ⟨t', rfl⟩ := ry; exact ne_int (fin_bl I q (congrArg not dec_int))
    | str j => obtain ⟨t', rfl⟩ := ry; exact PySem.EqMixed.ne_int_str (fin_bl I q (by simp))
    | _ => exact absurd (show false = true from hs) Bool.false_ne_true
  | str i =>
    obtain ⟨t, rfl⟩ := rx
    cases y with
    | non => cases ry; exact PySem.EqNone.ne_str_none (fin_bl I q (by simp))
    | bl j => cases ry; exact PySem.EqMixed.ne_str_bool (fin_bl I q (by simp))
    | int j => obtain ⟨t', rfl⟩ := ry; exact PySem.EqMixed.ne_str_int (fin_bl I q (by simp))
    | str j => obtain ⟨t', rfl⟩ := ry; exact ne_str (fin_bl I q (congrArg not dec_str))
    | _ => exact absurd (show false = true from hs) Bool.false_ne_true
  | byt i =>
    obtain ⟨t, rfl⟩ := rx
    cases y with
    | byt j => obtain ⟨t', rfl⟩ := ry; exact PySem.W.ne_bytes (fin_bl I q (congrArg not dec_byt))
    | _ => exact absurd (show false = true from hs) Bool.false_ne_true
  | _ => cases y <;> exact absurd (show false = true from hs) Bool.false_ne_true

theorem op_le : OpR X (compareOp .LtE) (rI0 fun i j => .bl (decide (i ≤ j))) := opB0 fun _ _ _ _ _ _ _ q => le_int q
theorem op_gt : OpR X (compareOp .Gt) (rI0 fun i j => .bl (decide (j < i))) := opB0 fun _ _ _ _ _ _ _ q => gt_int q
theorem op_ge : OpR X (compareOp .GtE) (rI0 fun i j => .bl (decide (j ≤ i))) := opB0 fun _ _ _ _ _ _ _ q => ge_int q
theorem nomark (b : Expr) {op : CmpOp} (h : op ≠ .In := by decide) (h2 : op ≠ .NotIn := by decide) : behindInMarks op b = false := by
  have e1 : (op == CmpOp.In) = false := by cases op <;> first | rfl | exact absurd rfl h
  have e2 : (op == CmpOp.NotIn) = false := by cases op <;> first | rfl | exact absurd rfl h2
  cases b <;> simp [behindInMarks, e1, e2]
/-- a comparison as a value; hm: nomark b, or (for in, not in) by with_unfolding_all rfl -/
theorem pe_cmpR {op : CmpOp} {r : R2} (ho : OpR X (compareOp op) r) (ha : PE X a ta) (hb : PE X b tb) (hm : behindInMarks op b = false) : PE X (.Compare a [op] [b] pos) (tOp r ta tb) := by
  intro pins s σ H Q I h
  exact wpAny_Compare1 (binT ha hb I h fun v u s2 x y H2 I2 rx ry q => ho pins s2 σ H2 x y v u Q I2 rx ry q) hm
/-- a reading of a value as a test -/
def tTest (t : TE) : TT := fun σ H Q => t σ H fun x H' => ∃ k, x = .bl k ∧ Q k H'
theorem pt_cmpR {op : CmpOp} {r : R2} (ho : OpR X (compareOp op) r) (ha : PE X a ta) (hb : PE X b tb) (hm : behindInMarks op b = false) : PT X (.Compare a [op] [b] pos) (tTest (tOp r ta tb)) := by
  intro pins s σ H Q I h
  refine wpAny_isTrue_Compare1 (thn (ha pins s σ H _ I h) fun v s1 ⟨x, H1, I1, r1, q1⟩ => thn (hb pins s1 σ H1 _ I1 q1) fun u s2 ⟨y, H2, I2, r2, q2⟩ =>
    thn (ho pins s2 σ H2 x y v u _ I2 r1 r2 q2) fun c s3 ⟨z, H3, I3, r3, k, e, q3⟩ => ?_) hm
  subst e
  cases r3
  exact wpAny_truthy_bool ⟨H3, I3, q3⟩
/-! ### truth -/
theorem line63 : (sizeLine : Nat) < 2 ^ 63 := by rw [sizeLine_eq]; decide
/-! ### strs and bytes -/
theorem op_add_str : OpR X (binaryOp .Add) (fun x y H Q => ∃ i j, x = .str i ∧ y = .str j ∧ i.length + j.length ≤ sizeLine ∧ Q (.str (i ++ j)) H) := by
  intro pins s σ H x y v u Q I rx ry h
  obtain ⟨i, j, rfl, rfl, hz, q⟩ := h
  obtain ⟨t, rfl⟩ := rx
  obtain ⟨t', rfl⟩ := ry
  exact add_str (fun t' tk => ⟨.str (i ++ j), H, I.tok _, ⟨_, rfl⟩, q⟩) hz
/-! ### scalar builtins, by CallR -/
theorem vals1 {x : V} {us : List Value} (r : Vals [x] us) : ∃ u, us = [u] ∧ RelV x u := by
  cases r with
  | cons r1 r2 => cases r2; exact ⟨_, rfl, r1⟩
theorem vals2 {x y : V} {us : List Value} (r : Vals [x, y] us) : ∃ u w', us = [u, w'] ∧ RelV x u ∧ RelV y w' := by
  cases r with
  | cons r1 r2 =>
    cases r2 with
    | cons r3 r4 => cases r4; exact ⟨_, _, rfl, r1, r3⟩
theorem call_abs : CallR X (.builtin "abs") (fun xs H Q => ∃ i, xs = [.int i] ∧ Q (.int (if i < 0 then -i else i)) H) := by
  intro pins s σ H xs us Q I r h
  obtain ⟨i, rfl, q⟩ := h
  obtain ⟨u, rfl, t, rfl⟩ := vals1 r
  exact call_abs_int fun u tk => ⟨.int (if i < 0 then -i else i), H, I.tok _, ⟨_, rfl⟩, q⟩
theorem call_max2 (hc : X.calm = true) : CallR X (.builtin "max") (fun xs H Q => ∃ i j, xs = [.int i, .int j] ∧ Q (.int (if j > i then j else i)) H) := by
  intro pins s σ H xs us Q I r h
  obtain ⟨i, j, rfl, q⟩ := h
  obtain ⟨u, w', rfl, ⟨t, rfl⟩, ⟨t', rfl⟩⟩ := vals2 r
  refine max_two_ints (I.ok.hd hc) fun h' tk k => ⟨_, H, I.kept k, ?_, q⟩
  by_cases hj : j > i
  · rw [if_pos hj, if_pos hj]; exact ⟨_, rfl⟩
  · rw [if_neg hj, if_neg hj]; exact ⟨_, rfl⟩
theorem call_min2 (hc : X.calm = true) : CallR X (.builtin "min") (fun xs H Q => ∃ i j, xs = [.int i, .int j] ∧ Q (.int (if j < i then j else i)) H) := by
  intro pins s σ H xs us Q I r h
  obtain ⟨i, j, rfl, q⟩ := h
  obtain ⟨u, w', rfl, ⟨t, rfl⟩, ⟨t', rfl⟩⟩ := vals2 r
  refine min_two_ints (I.ok.hd hc) fun h' tk k => ⟨_, H, I.kept k, ?_, q⟩
  by_cases hj : j < i
  · rw [if_pos hj, if_pos hj]; exact ⟨_, rfl⟩
  · rw [if_neg hj, if_neg hj]; exact ⟨_, rfl⟩
theorem call_int1 : CallR X (.type "int") (fun xs H Q => (∃ i, xs = [.int i] ∧ Q (.int i) H) ∨ ∃ k, xs = [.bl k] ∧ Q (.int (if k then 1 else 0)) H) := by
  intro pins s σ H xs us Q I r h
  rcases h with ⟨i, rfl, q⟩ | ⟨k, rfl, q⟩
  · obtain ⟨u, rfl, t, rfl⟩ := vals1 r
    exact call_int_int ⟨.int i, H, I, ⟨_, rfl⟩, q⟩
  · obtain ⟨u, rfl, r1⟩ := vals1 r
    cases r1
    exact call_int_bool ⟨.int (if k then 1 else 0), H, I.tok _, ⟨_, rfl⟩, q⟩
end
end L2

namespace L2
open PySem PySem.Spec PyProof.Rows

/-! ### an instance, its attributes a map -/
section
variable {prog : Program} {w : World} {A : Around} {E : Value → Shared → Prop} {s : Shared} {K : PySem.W.Frag} {x dx C f : Addr} {mA : Str → Option Value} {name : Str} {v : Value}

end

/-! ### the attributes as a list of pairs -/
theorem RelO.some_of {v : V} {o : Option Value} (r : RelO (some v) o) : ∃ u, o = some u ∧ RelV v u := by
  cases o with
  | none => exact (show False from r).elim
  | some u => exact ⟨u, rfl, r⟩
section
variable {P : Program} {w : World} {H H' : Hp} {h h' : Heap} {a C dx : Addr} {fs fs' : List (Str × V)}
end

/-! ### what of the text a class must have -/
section
variable {X : Cx} {pins : List (Addr × Obj)} {σ : St} {H : Hp} {s : Shared} {a C dx : Addr} {fs : List (Str × V)} {f : Str} {v : V} {A : Around} {E : Value → Shared → Prop}

end

/-! ### readings and rules -/
section
variable {X : Cx} {o e value : Expr} {f : Str} {pos pos' tpos : Pos} {ta tv : TE}
end

/-! ### isinstance -/
section
variable {X : Cx} {pins : List (Addr × Obj)} {σ : St} {H : Hp} {s : Shared} {A : Around} {E : Value → Shared → Prop} {Q : Value → Shared → Prop} {c : Value} {b : Bool}
end
end L2

namespace L2
open PySem PySem.Spec PyProof.Rows

/-! ### room -/
structure Room (k : Nat) (A : Around) : Prop where
  hd : A.handled = none
  dp : A.depth + 3 * k + 5 < recursionLimit
  un : A.units + 16 * k + 200 < cLine
  gd : A.guards = some []
theorem Room.mono {j k : Nat} {A : Around} (r : Room k A) (h : j ≤ k) : Room j A := ⟨r.hd, by have := r.dp; omega, by have := r.un; omega, r.gd⟩
theorem Room.deeper {k : Nat} {A : Around} (r : Room (k + 1) A) (env : Env) : Room k (A.deeper env) :=
  ⟨r.hd, by have := r.dp; show A.depth + 1 + 3 * k + 5 < _; omega, by have := r.un; show A.units + 3 + 16 * k + 200 < _; omega, r.gd⟩
theorem Room.depth {k : Nat} {A : Around} (r : Room k A) : A.depth < recursionLimit := by have := r.dp; omega
theorem Room.units {k : Nat} {A : Around} (r : Room k A) : A.units + 64 < cLine := by have := r.un; omega
/-! ### argument lists and displays -/
def tNil : TA := fun _ H Q => Q [] H
def tCons (ta : TE) (tr : TA) : TA := fun σ H Q => ta σ H fun x H1 => tr σ H1 fun xs H2 => Q (x :: xs) H2
section
variable {X : Cx} {e : Expr} {es : List Expr} {te : TE} {t : TA} {pos : Pos}
theorem pa_nil : PA X [] tNil := fun _ _ _ _ H Q I h => Calls.spliced_nil ⟨[], H, I, .nil, h⟩
theorem pa_cons (ha : PE X e te) (hr : PA X es t) (hs : starEach (e :: es) X.env = (false, eval e X.env) :: starEach es X.env := by rfl) : PA X (e :: es) (tCons te t) := by
  intro pos pins s σ H Q I h
  rw [hs]
  show wpAny _ _ (spliced ((false, eval e X.env) :: backTo pos (starEach es X.env))) _ _ s
  refine Calls.spliced_cons (thn (ha pins s σ H _ I h) fun u s1 ⟨x, H1, I1, r1, q1⟩ => ?_)
  exact thn (hr pos pins s1 σ H1 _ I1 q1) fun us s2 ⟨xs, H2, I2, r2, q2⟩ => ⟨x :: xs, H2, I2, .cons r1 r2, q2⟩

/-- a tuple, a list of written items -/
def tTup (t : TA) : TE := fun σ H Q => t σ H fun xs H1 => xs.length ≤ sizeLine ∧ ∀ p, H1 p = none → Q (.ref p) (upd H1 p (.tup xs))
def tLst (t : TA) : TE := fun σ H Q => t σ H fun xs H1 => xs.length ≤ sizeLine ∧ ∀ p, H1 p = none → Q (.ref p) (upd H1 p (.lst xs))
theorem pe_tup {x1} (h : PA X es t) : PE X (.Tuple es x1 pos) (tTup t) := by
  intro pins s σ H Q I hq
  refine wpAny_Tuple_spliced (thn (h pos pins s σ H _ I hq) fun us s1 ⟨xs, H1, I1, r, z, q⟩ => ⟨by rw [← r.length]; exact z, ?_⟩)
  have hf : H1 s1.heap.objs.size = none := I1.hok.fresh (Nat.le_refl _)
  refine ⟨.ref s1.heap.objs.size, upd H1 s1.heap.objs.size (.tup xs), I1.laid (t' := s1.toks) (fun b u e => Heap.get?_push_of_some _ e) (Nat.le_refl _) ?_, rfl, q _ hf⟩
  exact ⟨z, us, r, ⟨_, Heap.get?_push_size _ rfl, rfl, _, rfl⟩⟩
theorem pe_lst (h : PA X es t) : PE X (.List es pos) (tLst t) := by
  intro pins s σ H Q I hq
  refine wpAny_List_spliced (thn (h pos pins s σ H _ I hq) fun us s1 ⟨xs, H1, I1, r, z, q⟩ => ⟨by rw [← r.length]; exact z, ?_⟩)
  have hf : H1 s1.heap.objs.size = none := I1.hok.fresh (Nat.le_refl _)
  refine ⟨.ref s1.heap.objs.size, upd H1 s1.heap.objs.size (.lst xs), I1.laid (t' := s1.toks) (fun b u e => Heap.get?_push_of_some _ e) (Nat.le_refl _) ?_, rfl, q _ hf⟩
  exact ⟨z, us, 0, r, Heap.get?_push_size _ rfl⟩
end

/-! ### what a def promises -/
/-- a def's promise: the bound arguments in the parameters' order, the heap, the wanted end, the wanted exception -/
abbrev Sp := List V → Hp → VK → XK → Prop
/-- how an exception lies behind a call (file 08 gives it): the callers' frames, abstract heap and state ahead of the call, the wish, the exception, the state -/
abbrev CXT := List Env → Hp → Shared → XK → Value → Shared → Prop

/-- the state at a call -/
structure Env0 (P : Program) (w : World) (K : PySem.W.Frag) (mg : Str → Option Value) (base : Heap) (A : Around) (outer : List Env) (s : Shared) (H : Hp) : Prop where
  frames : A.frames = some outer
  mod : Mod K mg base
  bs : ∀ b o, base.get? b = some o → s.heap.get? b = some o ∧ H b = none
  bsz : base.objs.size ≤ s.heap.objs.size
  funs : s.heap.FunFrames base outer
  frf : ∀ b ∈ frs outer, H b = none
  hok : HOk P w H s.heap
  bare : AllBare s.gens
/-- a call's end -/
def CE (outer : List Env) (P : Program) (w : World) (H : Hp) (s : Shared) (Q : VK) (u : Value) (s' : Shared) : Prop :=
  ∃ v H', s'.os = s.os ∧ AllBare s'.gens ∧ Un (frs outer) [] H H' s.heap s'.heap ∧ HOk P w H' s'.heap ∧ RelV v u ∧ Q v H'
def CR (CX : CXT) (outer : List Env) (P : Program) (w : World) (H : Hp) (s : Shared) (Q : VK) (E : XK) (r : Result) (s' : Shared) : Prop :=
  match r with
  | .ok (.ret u) => CE outer P w H s Q u s'
  | .ok _ => False
  | .error e => CX outer H s E e s'
structure FnOk (P : Program) (w : World) (K : PySem.W.Frag) (mg : Str → Option Value) (base : Heap) (CX : CXT) (k : Nat) (f : Addr) (fd : FuncData) (ps : List Str) (sp : Sp) : Prop where
  len : ∀ vs H Q E, sp vs H Q E → vs.length = ps.length
  run : ∀ (A : Around) (outer : List Env) (s : Shared) (H : Hp) (args : Args) (us : List Value) (vs : List V) (Q : VK) (E : XK), Room k A → Env0 P w K mg base A outer s H → BindsTo s fd args (ps.zip us) → Vals vs us → sp vs H Q E →
    codeAny (model P w) A (.call (.ref f) args) (CR CX outer P w H s Q E) s
section
variable {X : Cx} {pins : List (Addr × Obj)} {σ : St} {H : Hp} {s s' : Shared}
/-- from a body: what a callee wants -/
theorem Inv.env0 (I : Inv X pins σ H s) : Env0 X.prog X.w X.K X.mg X.base X.A X.stack s H :=
  ⟨I.ok.frames, I.ok.mod, I.bs, Nat.le_trans I.ok.bsz I.sz, I.stack, I.stkFree, I.hok, I.bare⟩
/-- behind a call -/
theorem Inv.after {Q : VK} {u : Value} (I : Inv X pins σ H s) (h : CE X.stack X.prog X.w H s Q u s') : EP X pins σ Q u s' := by
  obtain ⟨v, H', os, bare, un, hok, r, q⟩ := h
  obtain ⟨hh, g, d, t, os'⟩ := s'
  obtain rfl : os' = s.os := os
  exact ⟨v, H', I.call (h' := hh) (g' := g) (d' := d) (t' := t) (ch := []) un hok bare (fun b z => absurd z (by simp)), r, q⟩
end

/-! ### calls -/
/-- f(..): the written arguments, then the defaults dvs; E: what is wanted of an exception -/
def tCall (sp : Sp) (dvs : List V) (E : XK) (t : TA) : TE := fun σ H Q => t σ H fun vs H1 => sp (vs ++ dvs) H1 Q E
/-- how the parameters are bound: us the positional arguments, kw the keywords' values by name, ds the defaults that fill up -/
def Binds (K : PySem.W.Frag) (fd : FuncData) (ps : List Str) (ds : List Value) : Prop :=
  ∀ (s : Shared) (us : List Value), K.In s.heap → (us ++ ds).length = ps.length → BindsTo s fd ⟨us, []⟩ (ps.zip (us ++ ds))
/-- every parameter is given -/
theorem Binds.all {K : PySem.W.Frag} {fd : FuncData} {ps : List Str} (h : ∀ us : List Value, us.length = ps.length → bindArgs fd ⟨us, []⟩ = pure (ps.zip us)) : Binds K fd ps [] := fun s us _ hl => by
  rw [List.append_nil] at hl ⊢
  exact .of_eq (h us hl)

/-- an exception of a callee reaches what this body wants of exceptions -/
def Passes (CX : CXT) (X : Cx) (E : XK) : Prop := ∀ (pins : List (Addr × Obj)) (σ : St) (H : Hp) (s : Shared) (e : Value) (s' : Shared), Inv X pins σ H s → CX X.stack H s E e s' → X.xe e s'

section
variable {X : Cx} {CX : CXT} {k : Nat} {f C : Addr} {fd : FuncData} {ps : List Str} {sp : Sp} {dvs : List V} {ds : List Value} {E : XK} {x m : Str} {p pos apos : Pos} {e o : Expr} {es : List Expr} {ta : TE} {t : TA}

/-- the callee runs -/
theorem run_fn {pins : List (Addr × Obj)} {σ : St} {H : Hp} {s : Shared} {Q : VK} {us : List Value} {vs : List V} (F : FnOk X.prog X.w X.K X.mg X.base CX k f fd ps sp) (hr : Room k X.A) (hb : Binds X.K fd ps ds) (hd : Vals dvs ds) (hx : Passes CX X E)
    (I : Inv X pins σ H s) (r : Vals vs us) (h : sp (vs ++ dvs) H Q E) : wpAny (model X.prog X.w) X.A (call (.ref f) us) (EP X pins σ Q) X.xe s := by
  have r2 : Vals (vs ++ dvs) (us ++ ds) := r.append hd
  have hl : (us ++ ds).length = ps.length := by rw [← r2.length]; exact F.len _ _ _ _ h
  refine wpAny_call (codeAny_mono (F.run X.A X.stack s H ⟨us, []⟩ (us ++ ds) (vs ++ dvs) Q E hr I.env0 (hb s us I.kIn hl) r2 h) fun r s' hq => ?_)
  cases r with
  | error e => exact hx pins σ H s e s' I hq
  | ok fl =>
    cases fl with
    | ret u => exact I.after hq
    | next => exact False.elim hq
    | brk => exact False.elim hq
    | cont => exact False.elim hq

theorem pe_call (F : FnOk X.prog X.w X.K X.mg X.base CX k f fd ps sp) (hr : Room k X.A) (hg : Gl X x) (hm : X.mg x = some (.ref f)) (hk : PySem.W.keepIn X.K (.ref f) = true) (hb : Binds X.K fd ps ds) (hd : Vals dvs ds) (hx : Passes CX X E)
    (ha : PA X (e :: es) t) (hdb : (x == ("__debug__" : Str)) = false := by decide) (he : starEach (e :: es) X.env = (false, eval e X.env) :: starEach es X.env := by rfl) (hpl : (backTo pos (starEach es X.env)).any (·.1) = false := by rfl) :
    PE X (.Call (.Name x p) (e :: es) [] pos) (tCall sp dvs E t) := by
  intro pins s σ H Q I h
  refine wpAny_Call_Name_kw (ld_glob I hg hm ?_ hdb)
  refine PySem.W.callWith_K (h₀ := X.base) I.ok.mod.kin hk (thn (ha pos pins s σ H _ I h) fun us s1 ⟨vs, H1, I1, r, q⟩ => ⟨I1.kIn, ?_⟩) he hpl
  exact run_fn F hr hb hd hx I1 r q
end

/-! ### keywords -/
section
variable {X : Cx} {CX : CXT} {k : Nat} {f C : Addr} {fd : FuncData} {ps ks : List Str} {sp : Sp} {E : XK} {x m : Str} {p pos apos kpos : Pos} {e o : Expr} {es : List Expr} {kws : List Keyword} {te ta : TE} {t tk : TA} {nm : Option Str}
variable {g : List Value → List Value → List Value} {gV : List V → List V → List V}
end

/-! ### a def's body keeps its promise -/
/-- names: the parameters first -/
structure FnScope (N P : List Str) (sc : Scope) : Prop where
  kind : sc.kind = .function
  co : sc.isCoroutine = false
  gen : sc.isGenerator = false
  nd : N.Nodup
  pre : N.take P.length = P
  par : ∀ x ∈ P, sc.names.lookup x = some .local ∨ sc.names.lookup x = some .cell
  nofree : ∀ y ∈ sc.names, y.2 ≠ .free

theorem bindL_out {kindOf : Str → Option NameKind} {x : Str} : ∀ {binds : List (Str × Value)} {m : Str → Option Value}, (∀ v, (x, v) ∉ binds) → bindL kindOf binds m x = m x
  | [], _, _ => rfl
  | (n, v) :: r, m, h => by
    unfold bindL
    rw [bindL_out fun w hw => h w (List.mem_cons_of_mem _ hw)]
    split
    · have : x ≠ n := by rintro rfl; exact h v List.mem_cons_self
      simp [this]
    · rfl
theorem bindC_out {kindOf : Str → Option NameKind} {x : Str} : ∀ {binds : List (Str × Value)} {m : Str → Option Value}, (∀ v, (x, v) ∉ binds) → bindC kindOf binds m x = m x
  | [], _, _ => rfl
  | (n, v) :: r, m, h => by
    unfold bindC
    rw [bindC_out fun w hw => h w (List.mem_cons_of_mem _ hw)]
    split
    · rfl
    · have : x ≠ n := by rintro rfl; exact h v List.mem_cons_self
      simp [this]
theorem bindL_get {kindOf : Str → Option NameKind} {x : Str} {v : Value} : ∀ {P : List Str} {vs : List Value} {i : Nat} {m : Str → Option Value}, P.Nodup → P[i]? = some x → vs[i]? = some v → kindOf x = some .local →
    bindL kindOf (P.zip vs) m x = some v
  | [], _, _, _, _, h, _, _ => by simp at h
  | _ :: _, [], _, _, _, _, h, _ => by simp at h
  | p :: P, w :: vs, 0, m, nd, h1, h2, hk => by
    simp at h1 h2; subst h1; subst h2
    show bindL kindOf ((p, w) :: P.zip vs) m p = _
    unfold bindL
    rw [bindL_out fun v hv => (List.nodup_cons.mp nd).1 (List.of_mem_zip hv).1, if_pos hk]
    simp
  | p :: P, w :: vs, i + 1, m, nd, h1, h2, hk => by
    show bindL kindOf ((p, w) :: P.zip vs) m x = _
    unfold bindL
    exact bindL_get (i := i) (List.nodup_cons.mp nd).2 (by simpa using h1) (by simpa using h2) hk
theorem bindC_get {kindOf : Str → Option NameKind} {x : Str} {v : Value} : ∀ {P : List Str} {vs : List Value} {i : Nat} {m : Str → Option Value}, P.Nodup → P[i]? = some x → vs[i]? = some v → kindOf x ≠ some .local →
    bindC kindOf (P.zip vs) m x = some v
  | [], _, _, _, _, h, _, _ => by simp at h
  | _ :: _, [], _, _, _, _, h, _ => by simp at h
  | p :: P, w :: vs, 0, m, nd, h1, h2, hk => by
    simp at h1 h2; subst h1; subst h2
    show bindC kindOf ((p, w) :: P.zip vs) m p = _
    unfold bindC
    rw [bindC_out fun v hv => (List.nodup_cons.mp nd).1 (List.of_mem_zip hv).1, if_neg hk]
    simp
  | p :: P, w :: vs, i + 1, m, nd, h1, h2, hk => by
    show bindC kindOf ((p, w) :: P.zip vs) m x = _
    unfold bindC
    exact bindC_get (i := i) (List.nodup_cons.mp nd).2 (by simpa using h1) (by simpa using h2) hk

/-- the names' values at the entry -/
def start (N : List Str) (vs : List V) : St := vs.map some ++ List.replicate (N.length - vs.length) none

/-- the context of a def's body, at its entry; an exception leaves the frame, then lies as CX says -/
def cxOf (CX : CXT) (P : Program) (w : World) (K : PySem.W.Frag) (mg : Str → Option Value) (base : Heap) (N : List Str) (qual : Str) (scope : Scope) (f : Addr) (cd : Value) (A : Around) (outer : List Env) (s : Shared) (H : Hp) (E : XK) : Cx where
  prog := P
  w := w
  K := K
  mg := mg
  base := base
  A := A.deeper (envOfC qual scope s.heap.objs.size f cd)
  N := N
  s₀ := s
  H₀ := H
  env := envOfC qual scope s.heap.objs.size f cd
  outer := outer
  stack := envOfC qual scope s.heap.objs.size f cd :: outer
  ex := []
  calm := true
  fn := fun _ => true
  pn := []
  xe := fun e s' => wpAny (model P w) (A.deeper (envOfC qual scope s.heap.objs.size f cd)) (leaving (envOfC qual scope s.heap.objs.size f cd) e) (fun _ s'' => CX outer H s E e s'') (fun e' s'' => CX outer H s E e' s'') s'

theorem cell_has {sc : Scope} {n : Nat} {x : Str} (h : sc.names.lookup x = some .cell) : ∃ c, (cellsFrom n sc.names []).lookup x = some c := by
  have q := PySem.W.cellsFrom_some sc.names n [] (.inl h)
  exact Option.isSome_iff_exists.mp q

theorem inv_start {CX : CXT} {P : Program} {w : World} {K : PySem.W.Frag} {mg : Str → Option Value} {base : Heap} {N ps : List Str} {qual : Str} {scope : Scope} {f : Addr} {cd : Value} {A : Around} {outer : List Env} {s s1 : Shared} {H : Hp} {E : XK} {us : List Value} {vs : List V}
    (S : FnScope N ps scope) (hd : A.handled = none) (e0 : Env0 P w K mg base A outer s H) (hl : vs.length = ps.length) (r : Vals vs us)
    (x : InCallC s s.heap.objs.size (bindL (envOfC qual scope s.heap.objs.size f cd).kindOf (ps.zip us) fun _ => none) (cellsFrom (s.heap.objs.size + 1) scope.names []) (bindC (envOfC qual scope s.heap.objs.size f cd).kindOf (ps.zip us) fun _ => none) s1) :
    Inv (cxOf CX P w K mg base N qual scope f cd A outer s H E) [] (start N vs) H s1 := by
  have hpl : ps.length ≤ N.length := by have := congrArg List.length S.pre; rw [List.length_take] at this; omega
  obtain ⟨h1, tk, rfl, hk⟩ := x.done
  have noA : ∀ b : Addr, b ∉ (cxOf CX P w K mg base N qual scope f cd A outer s H E).ex := fun b z => absurd (show b ∈ ([] : List Addr) from z) (by simp)
  refine ⟨⟨e0.mod, S.kind, rfl, rfl, Nat.le_refl _, fun y z c h1 h2 => ?_, fun y hy => ?_, fun y c _ h => ?_, fun _ => hd, Around.frames_deeper e0.frames, .inr ⟨rfl, rfl⟩, fun b z => absurd z (noA b), e0.bs, e0.bsz, fun b _ _ => noA b, fun b z => absurd z (noA b), e0.funs, e0.frf⟩,
    rfl, e0.bare, Un.kept hk, ⟨_, x.toInCall.ns, fun i y v h1 h2 h3 => ?_⟩, fun y c h => ⟨_, x.cell y c h⟩, e0.hok.fresh (Nat.le_refl _), fun y c h => ?_, fun p hp => absurd (show p ∈ ([] : List (Addr × Obj)) from hp) (by simp), e0.hok.kept hk, ?_⟩
  · exact name_of_addr x.apart (PySem.mem_of_lookup h1) (PySem.mem_of_lookup h2)
  · have hy : scope.names.lookup y = some .cell ∨ scope.names.lookup y = some .free := hy
    rcases hy with hy | hy
    · exact cell_has hy
    · exact absurd rfl (S.nofree _ (PySem.mem_of_lookup hy))
  · exact Nat.le_of_lt (x.above y c (PySem.mem_of_lookup h))
  · have hi : i < vs.length := by
      unfold start at h2
      by_cases hi : i < vs.length
      · exact hi
      · rw [List.getElem?_append_right (by simpa using hi)] at h2
        rw [List.getElem?_replicate] at h2
        split at h2 <;> cases h2
    have ha : vs[i]? = some v := by
      unfold start at h2
      rw [List.getElem?_append_left (by simpa using hi), List.getElem?_map] at h2
      cases e : vs[i]? with
      | none => rw [e] at h2; cases h2
      | some a => rw [e] at h2; cases h2; rfl
    obtain ⟨u, hu, rv⟩ := r.get ha
    have hp : ps[i]? = some y := by
      rw [← S.pre, List.getElem?_take_of_lt (by omega)]; exact h1
    have ndP : ps.Nodup := by rw [← S.pre]; exact S.nd.sublist (List.take_sublist _ _)
    refine ⟨u, rv, ?_⟩
    rcases S.par y (List.mem_of_getElem? hp) with k | k
    · exact .inl ⟨k, bindL_get ndP hp hu k⟩
    · obtain ⟨c, e⟩ := cell_has (n := s.heap.objs.size + 1) k
      refine .inr ⟨.inl k, c, e, ?_⟩
      have q := x.cell y c e
      rw [bindC_get ndP hp hu (by show scope.names.lookup y ≠ _; rw [k]; decide)] at q
      exact q
  · exact e0.hok.fresh (Nat.le_of_lt (x.above y c (PySem.mem_of_lookup h)))
  · unfold start
    show _ = N.length
    rw [List.length_append, List.length_map, List.length_replicate]
    omega

/-- THE RULE: a def (or a method) of the text, by its body. The body's reading t is chosen for each entry; it is run at the parameters' values -/
theorem fn_of {CX : CXT} {P : Program} {w : World} {K : PySem.W.Frag} {mg : Str → Option Value} {base : Heap} {k : Nat} {f : Addr} {name qual : Str} {params : Arguments} {body : List Stmt} {scope : Scope} {dV kV doc pm cdv ct oc : Value} {an od : Option Addr}
    {osl : Array (Option Value)} {N ps : List Str} {sp : Sp} (lk : K.lookup f = some ⟨oc, od, .func (PySem.W.fnOf name qual params body scope dV kV doc pm an cdv ct), osl⟩) (hcd : PySem.W.codeIn K cdv qual = true) (S : FnScope N ps scope)
    (len : ∀ vs H Q E, sp vs H Q E → vs.length = ps.length)
    (hbody : ∀ (A : Around) (outer : List Env) (s : Shared) (H : Hp) (vs : List V) (Q : VK) (E : XK), Room k (A.deeper (envOfC qual scope s.heap.objs.size f cdv)) → sp vs H Q E →
      ∃ t, PSs (cxOf CX P w K mg base N qual scope f cdv A outer s H E) body t ∧ t { nx := fun _ H' => Q .non H', rt := Q } (start N vs) H) :
    FnOk P w K mg base CX (k + 1) f (PySem.W.fnOf name qual params body scope dV kV doc pm an cdv ct) ps sp := by
  refine ⟨len, fun A outer s H args us vs Q E hr e0 hb r hsp => ?_⟩
  have hl := len _ _ _ _ hsp
  have KX : K.In s.heap := e0.mod.kin.keeps fun b o e => (e0.bs b o e).1
  have lim : s.heap.NoLimit := e0.mod.nolimit.keeps fun b o e => (e0.bs b o e).1
  have hkind : ∀ y ∈ ps.zip us, scope.names.lookup y.1 = some .local ∨ (scope.names.lookup y.1 = some .cell ∧ ((cellsFrom (s.heap.objs.size + 1) scope.names []).lookup y.1).isSome = true) := fun ⟨n, v⟩ hy => by
    rcases S.par n (List.of_mem_zip hy).1 with q | q
    · exact .inl q
    · exact .inr ⟨q, PySem.W.cellsFrom_some _ _ _ (.inl q)⟩
  refine codeAny_call_function hr.depth (KX _ _ lk) rfl S.co S.gen rfl (PySem.W.codeRec_of KX hcd) (hb _ _ _ _ ?_)
  refine wpAny_newFunctionEnv_cells S.kind hkind fun env he s1 x => ?_
  subst he
  refine ⟨lim.keeps x.toInCall.keep, codeAny_func ?_⟩
  obtain ⟨t, ht, hq⟩ := hbody A outer s H vs Q E (hr.deeper _) hsp
  have I : Inv (cxOf CX P w K mg base N qual scope f cdv A outer s H E) [] (start N vs) H s1 := inv_start S hr.hd e0 hl r x
  refine wpAny_mono (ht [] s1 (start N vs) H _ I hq) (fun fl s' hs => ?_) fun e s' hs => hs
  have fin : ∀ {σ' : St} {H' : Hp} {v : V} {u : Value}, Inv (cxOf CX P w K mg base N qual scope f cdv A outer s H E) [] σ' H' s' → RelV v u → Q v H' → CE outer P w H s Q u s' :=
    fun {σ' H' v u} J rv q => ⟨v, H', J.os, J.bare, J.base, J.hok, rv, q⟩
  cases fl with
  | ret u =>
    obtain ⟨v, σ', H', J, rv, q⟩ := hs
    exact fin J rv q
  | next =>
    obtain ⟨σ', H', J, q⟩ := hs
    exact fin (v := V.non) (u := Value.none) J rfl q
  | brk =>
    obtain ⟨_, _, _, q⟩ := hs
    exact False.elim q
  | cont =>
    obtain ⟨_, _, _, q⟩ := hs
    exact False.elim q
end L2

namespace L2
open PySem PySem.Spec PyProof.Rows
section
variable {X : Cx} {x : Str} {p pos : Pos} {e : Expr} {es : List Expr} {t : TA} {id T : String} {r : List V → Hp → VK → Prop}

def tCB (r : List V → Hp → VK → Prop) (t : TA) : TE := fun σ H Q => t σ H fun vs H1 => r vs H1 Q
/-- f(e, ..), f a built-in function -/
theorem pe_callB (hc : CallR X (.builtin id) r) (hg : Gl X x) (hm : X.mg x = none) (hv : bootBuiltins x = some (.builtin id)) (ha : PA X (e :: es) t) (hn : x ≠ "__name__" := by decide) (hdb : (x == ("__debug__" : Str)) = false := by decide)
    (he : starEach (e :: es) X.env = (false, eval e X.env) :: starEach es X.env := by rfl) (hpl : (backTo pos (starEach es X.env)).any (·.1) = false := by rfl) : PE X (.Call (.Name x p) (e :: es) [] pos) (tCB r t) := by
  intro pins s σ H Q I h
  refine wpAny_Call_Name_kw (ld_blt I hg hm hv ?_ hn hdb)
  exact PyProof.Rows.callWith_builtin1 (thn (ha pos pins s σ H _ I h) fun us s1 ⟨vs, H1, I1, r1, q1⟩ => hc pins s1 σ H1 vs us Q I1 r1 q1) he hpl
/-- T(e, ..), T a built-in type -/
theorem pe_callTy (hc : CallR X (.type T) r) (hg : Gl X x) (hm : X.mg x = none) (hv : bootBuiltins x = some (.type T)) (ha : PA X (e :: es) t) (hn : x ≠ "__name__" := by decide) (hdb : (x == ("__debug__" : Str)) = false := by decide)
    (he : starEach (e :: es) X.env = (false, eval e X.env) :: starEach es X.env := by rfl) (hpl : (backTo pos (starEach es X.env)).any (·.1) = false := by rfl) : PE X (.Call (.Name x p) (e :: es) [] pos) (tCB r t) := by
  intro pins s σ H Q I h
  refine wpAny_Call_Name_kw (ld_blt I hg hm hv ?_ hn hdb)
  exact PyProof.Rows.callWith_type1 (thn (ha pos pins s σ H _ I h) fun us s1 ⟨vs, H1, I1, r1, q1⟩ => hc pins s1 σ H1 vs us Q I1 r1 q1) he hpl
end
end L2

namespace L2
open PySem PySem.Spec PyProof.Rows

/-! ### lists of pairs as tables -/
section
variable {κ : Type} [DecidableEq κ]
def valV (kvs : List (κ × V)) (k : κ) : Option V := (kvs.find? fun kv => decide (kv.1 = k)).map (·.2)
/-- in its place, or at the end -/
def putK (kvs : List (κ × V)) (k : κ) (v : V) : List (κ × V) :=
  if (kvs.any fun kv => decide (kv.1 = k)) = true then kvs.map (fun kv => if kv.1 = k then (kv.1, v) else kv) else kvs ++ [(k, v)]
theorem valV_nil {k : κ} : valV ([] : List (κ × V)) k = none := rfl
theorem valV_pos {p : κ × V} {r : List (κ × V)} {k : κ} (e : p.1 = k) : valV (p :: r) k = some p.2 := by simp [valV, List.find?_cons, e]
theorem valV_neg {p : κ × V} {r : List (κ × V)} {k : κ} (e : ¬ p.1 = k) : valV (p :: r) k = valV r k := by simp [valV, List.find?_cons, e]
theorem valV_any (k : κ) : ∀ kvs : List (κ × V), (kvs.any fun kv => decide (kv.1 = k)) = (valV kvs k).isSome
  | [] => rfl
  | p :: r => by
    rw [List.any_cons]
    by_cases e : p.1 = k
    · simp only [valV_pos e, decide_eq_true e, Bool.true_or, Option.isSome_some]
    · rw [valV_neg e, decide_eq_false e, Bool.false_or]; exact valV_any k r
theorem valV_map (k j : κ) (y : V) : ∀ kvs : List (κ × V), valV (kvs.map fun kv => if kv.1 = k then (kv.1, y) else kv) j = (valV kvs j).map fun x => if j = k then y else x
  | [] => rfl
  | p :: r => by
    have ih := valV_map k j y r
    rw [List.map_cons]
    by_cases h : p.1 = k
    · rw [if_pos h]
      by_cases e : p.1 = j
      · rw [valV_pos (p := (p.1, y)) e, valV_pos e, Option.map_some, if_pos (e.symm.trans h)]
      · rw [valV_neg (p := (p.1, y)) e, valV_neg e, ih]
    · rw [if_neg h]
      by_cases e : p.1 = j
      · rw [valV_pos (p := p) e, valV_pos e, Option.map_some, if_neg (fun z => h (e.trans z))]
      · rw [valV_neg (p := p) e, valV_neg e, ih]
theorem valV_snoc (k j : κ) (y : V) : ∀ kvs : List (κ × V), valV kvs k = none → valV (kvs ++ [(k, y)]) j = if j = k then some y else valV kvs j
  | [], _ => by
    by_cases e : k = j
    · rw [if_pos e.symm]; exact valV_pos (p := (k, y)) e
    · rw [if_neg (fun z => e z.symm)]; exact valV_neg (p := (k, y)) e
  | p :: r, hn => by
    rw [List.cons_append]
    have hk : ¬ p.1 = k := fun z => by rw [valV_pos z] at hn; cases hn
    rw [valV_neg hk] at hn
    have ih := valV_snoc k j y r hn
    by_cases e : p.1 = j
    · rw [valV_pos e, valV_pos e, if_neg (fun z => hk (e.trans z))]
    · rw [valV_neg e, valV_neg e, ih]
theorem valV_put (kvs : List (κ × V)) (k j : κ) (y : V) : valV (putK kvs k y) j = if j = k then some y else valV kvs j := by
  unfold putK
  by_cases a : (kvs.any fun kv => decide (kv.1 = k)) = true
  · rw [if_pos a, valV_map]
    rw [valV_any] at a
    by_cases e : j = k
    · obtain ⟨x, hx⟩ := Option.isSome_iff_exists.mp a
      rw [if_pos e, e, hx, Option.map_some, if_pos rfl]
    · rw [if_neg e]
      cases valV kvs j with
      | none => rfl
      | some x => rw [Option.map_some, if_neg e]
  · rw [if_neg a]
    refine valV_snoc k j y kvs ?_
    rw [valV_any] at a
    cases q : valV kvs k with
    | none => rfl
    | some x => rw [q] at a; exact (a rfl).elim
theorem length_putK (kvs : List (κ × V)) (k : κ) (v : V) : (putK kvs k v).length ≤ kvs.length + 1 := by
  unfold putK
  split
  · rw [List.length_map]; omega
  · rw [List.length_append, List.length_cons, List.length_nil]; omega
theorem putK_new {kvs : List (κ × V)} {k : κ} (v : V) (h : valV kvs k = none) : putK kvs k v = kvs ++ [(k, v)] := by
  unfold putK
  rw [valV_any, h]
  exact if_neg (by decide)

theorem RelO.isSome_eq {o : Option V} {u : Option Value} (r : RelO o u) : o.isSome = u.isSome := by
  cases o with
  | none => cases u with
    | none => rfl
    | some _ => exact (show False from r).elim
  | some _ => cases u with
    | none => exact (show False from r).elim
    | some _ => rfl
theorem RelO.getD {o : Option V} {u : Option Value} {d : V} {d' : Value} (r : RelO o u) (rd : RelV d d') : RelV (o.getD d) (u.getD d') := by
  cases o with
  | none => cases u with
    | none => exact rd
    | some _ => exact (show False from r).elim
  | some _ => cases u with
    | none => exact (show False from r).elim
    | some _ => exact r

/-- raw tables of the same keys -/
theorem KV.val {kvs : List (κ × V)} {vs : List (κ × Value)} (r : KV kvs vs) (k : κ) : RelO (valV kvs k) (valueAt vs k) := by
  unfold KV at r
  induction r with
  | nil => exact True.intro
  | @cons p q ps qs h t ih =>
    obtain ⟨h1, h2⟩ := h
    by_cases e : p.1 = k
    · have e' : q.1 = k := h1.symm.trans e
      have b : valueAt (q :: qs) k = some q.2 := by simp [valueAt, List.find?_cons, e']
      rw [valV_pos e, b]; exact h2
    · have e' : ¬ q.1 = k := fun z => e (h1.trans z)
      have b : valueAt (q :: qs) k = valueAt qs k := by simp [valueAt, List.find?_cons, e']
      rw [valV_neg e, b]; exact ih
theorem KV.any {kvs : List (κ × V)} {vs : List (κ × Value)} (r : KV kvs vs) (k : κ) : (kvs.any fun kv => decide (kv.1 = k)) = vs.any fun kv => decide (kv.1 = k) := by
  unfold KV at r
  induction r with
  | nil => rfl
  | cons h t ih => rw [List.any_cons, List.any_cons, ih, h.1]
theorem KV.repl {kvs : List (κ × V)} {vs : List (κ × Value)} (r : KV kvs vs) (k : κ) {y : V} {u : Value} (ry : RelV y u) :
    KV (kvs.map fun kv => if kv.1 = k then (kv.1, y) else kv) (vs.map fun kv => if kv.1 = k then (kv.1, u) else kv) := by
  unfold KV at r ⊢
  induction r with
  | nil => exact .nil
  | @cons p q ps qs h t ih =>
    rw [List.map_cons, List.map_cons]
    refine .cons ?_ ih
    obtain ⟨h1, h2⟩ := h
    by_cases e : p.1 = k
    · rw [if_pos e, if_pos (h1.symm.trans e)]; exact ⟨h1, ry⟩
    · rw [if_neg e, if_neg (fun z => e (h1.trans z))]; exact ⟨h1, h2⟩
theorem KV.put {kvs : List (κ × V)} {vs : List (κ × Value)} (r : KV kvs vs) (k : κ) {y : V} {u : Value} (ry : RelV y u) : KV (putK kvs k y) (stored vs k u) := by
  unfold putK stored
  rw [r.any k]
  by_cases e : (vs.any fun kv => decide (kv.1 = k)) = true
  · rw [if_pos e, if_pos e]; exact r.repl k ry
  · rw [if_neg e, if_neg e]; exact Paired.snoc r ⟨rfl, ry⟩
theorem KV.length {kvs : List (κ × V)} {vs : List (κ × Value)} (r : KV kvs vs) : kvs.length = vs.length := Paired.length r
end


/-! ### a tracked dict, its keys ints and texts or tuples of these -/
theorem kV_is {P : Program} {w : World} {k : Key} {u : Value} (r : RelV (kV k) u) : (mixKind P w).is k u = true := by
  cases k with
  | inl i => obtain ⟨t, e⟩ := (show ∃ t, u = Value.int i t from r); subst e; exact mixKind_int P w i t
  | inr x => obtain ⟨t, e⟩ := (show ∃ t, u = Value.str x t from r); subst e; exact mixKind_str P w x t
theorem items_are {P : Program} {w : World} : ∀ {ks : List Key} {us : List Value}, Vals (ks.map kV) us → ItemsAre (mixKind P w) ks us
  | [], _, r => by rw [List.map_nil] at r; cases r; exact .nil
  | k :: ks, _, r => by
    rw [List.map_cons] at r
    cases r with
    | cons h t => exact .cons (kV_is h) (items_are t)

/-- raw entries of a dict with tuple keys -/
abbrev KT (H : Hp) : List (List Key × V) → List (List Key × Addr × Value) → Prop := Paired fun p q => p.1 = q.1 ∧ H q.2.1 = some (.tup (p.1.map kV)) ∧ RelV p.2 q.2.2
theorem KT.val {H : Hp} {kvs : List (List Key × V)} {xs : List (List Key × Addr × Value)} (r : KT H kvs xs) (k : List Key) : RelO (valV kvs k) ((atKey xs k).map (·.2)) := by
  induction r with
  | nil => exact True.intro
  | @cons p q ps qs h t ih =>
    obtain ⟨h1, _, h2⟩ := h
    by_cases e : p.1 = k
    · have e' : q.1 = k := h1.symm.trans e
      have b : atKey (q :: qs) k = some q.2 := by simp [atKey, List.find?_cons, e']
      rw [valV_pos e, b]; exact h2
    · have e' : ¬ q.1 = k := fun z => e (h1.trans z)
      have b : atKey (q :: qs) k = atKey qs k := by simp [atKey, List.find?_cons, e']
      rw [valV_neg e, b]; exact ih
theorem KT.repl {H : Hp} {kvs : List (List Key × V)} {xs : List (List Key × Addr × Value)} (r : KT H kvs xs) (k : List Key) {y : V} {u : Value} (ry : RelV y u) :
    KT H (kvs.map fun kv => if kv.1 = k then (kv.1, y) else kv) (xs.map (putAt k u)) := by
  induction r with
  | nil => exact .nil
  | @cons p q ps qs h t ih =>
    rw [List.map_cons, List.map_cons]
    refine .cons ?_ ih
    obtain ⟨h1, h2, h3⟩ := h
    unfold putAt
    by_cases e : p.1 = k
    · rw [if_pos e, if_pos (h1.symm.trans e)]; exact ⟨h1, h2, ry⟩
    · rw [if_neg e, if_neg (fun z => e (h1.trans z))]; exact ⟨h1, h2, h3⟩
theorem KT.put {H : Hp} {kvs : List (List Key × V)} {xs : List (List Key × Addr × Value)} (r : KT H kvs xs) (k : List Key) {b : Addr} {y : V} {u : Value} (hb : H b = some (.tup (k.map kV))) (ry : RelV y u) :
    KT H (putK kvs k y) (storedH xs k b u) := by
  have e : (kvs.any fun kv => decide (kv.1 = k)) = (atKey xs k).isSome := by
    rw [valV_any, (r.val k).isSome_eq, Option.isSome_map]
  unfold putK storedH
  rw [e]
  by_cases q : (atKey xs k).isSome = true
  · rw [if_pos q, if_pos q]; exact r.repl k ry
  · rw [if_neg q, if_neg q]; exact Paired.snoc r ⟨rfl, hb, ry⟩
theorem KT.keeps {H H' : Hp} {kvs : List (List Key × V)} {xs : List (List Key × Addr × Value)} (r : KT H kvs xs) (ht : ∀ b ys, H b = some (.tup ys) → H' b = some (.tup ys)) : KT H' kvs xs :=
  Paired.mapP r fun _ _ z => ⟨z.1, ht _ _ z.2.1, z.2.2⟩

section
variable {P : Program} {w : World} {H : Hp} {h : Heap} {a : Addr}
theorem rd_of {u : HO} (ok : HOk P w H h) (e : Rd H a u) : ObjOk P w H h a u := e.ok ok
theorem dk_rd {kvs : List (Key × V)} (ok : HOk P w H h) (e : Rd H a (.dK kvs)) : kvs.length ≤ sizeLine ∧ (a == sysModules) = false ∧ ∃ vs, KV kvs vs ∧ h.DictOf (mixKind P w) a vs :=
  show ObjOk P w H h a (.dK kvs) from rd_of ok e
theorem dk_of {kvs : List (Key × V)} (ok : HOk P w H h) (e : H a = some (.dK kvs)) : kvs.length ≤ sizeLine ∧ (a == sysModules) = false ∧ ∃ vs, KV kvs vs ∧ h.DictOf (mixKind P w) a vs := dk_rd ok (.inl e)
/-- a tracked tuple of ints and texts is a key -/
theorem key_of {ks : List Key} (ok : HOk P w H h) (e : H a = some (.tup (ks.map kV))) : (tupleKind (mixKind P w)).is h ks a := by
  obtain ⟨_, its, r, o, h1, h2, n, h3⟩ := (show ObjOk P w H h a (.tup (ks.map kV)) from ok a _ e)
  exact ⟨o, its.toArray, n, h1, h2, h3, by simpa using items_are r⟩
theorem dt_rd {kvs : List (List Key × V)} (ok : HOk P w H h) (e : Rd H a (.dT kvs)) : kvs.length ≤ sizeLine ∧ (a == sysModules) = false ∧
    ∃ xs, KT H kvs xs ∧ h.DictOfH (tupleKind (mixKind P w)) a xs := by
  obtain ⟨z, y, xs, r, o, es, ep, h1, h2, h3, h4, h5⟩ := (show ObjOk P w H h a (.dT kvs) from rd_of ok e)
  refine ⟨z, y, xs, r, o, es, ep, h1, h2, h3, h4, fun x hx => ?_, h5⟩
  have all : ∀ {l : List (List Key × V)} {m : List (List Key × Addr × Value)}, KT H l m → ∀ x ∈ m, (tupleKind (mixKind P w)).is h x.1 x.2.1 := by
    intro l m q
    induction q with
    | nil => intro x hx; exact nomatch hx
    | @cons p q ps qs hq t ih =>
      intro x hx
      rcases List.mem_cons.mp hx with e | hx
      · subst e
        exact key_of ok (by rw [← hq.1]; exact hq.2.1)
      · exact ih x hx
  exact all r x hx
theorem dt_of {kvs : List (List Key × V)} (ok : HOk P w H h) (e : H a = some (.dT kvs)) : kvs.length ≤ sizeLine ∧ (a == sysModules) = false ∧
    ∃ xs, KT H kvs xs ∧ h.DictOfH (tupleKind (mixKind P w)) a xs := dt_rd ok (.inl e)
end

/-- what the dict at a holds at the key y -/
def DGet (H : Hp) (a : Addr) (y : V) (r : Option V) : Prop :=
  (∃ kvs k, Rd H a (.dK kvs) ∧ y = kV k ∧ r = valV kvs k) ∨ ∃ kvs k b, Rd H a (.dT kvs) ∧ y = .ref b ∧ H b = some (.tup (k.map kV)) ∧ r = valV kvs k
/-- the heap behind a[y] = v -/
def DPut (H : Hp) (a : Addr) (y v : V) (H' : Hp) : Prop :=
  (∃ kvs k, H a = some (.dK kvs) ∧ y = kV k ∧ kvs.length < sizeLine ∧ H' = upd H a (.dK (putK kvs k v))) ∨
  ∃ kvs k b, H a = some (.dT kvs) ∧ y = .ref b ∧ H b = some (.tup (k.map kV)) ∧ kvs.length < sizeLine ∧ H' = upd H a (.dT (putK kvs k v))
theorem DGet.k {H : Hp} {a : Addr} {kvs : List (Key × V)} {k : Key} (e : H a = some (.dK kvs)) : DGet H a (kV k) (valV kvs k) := .inl ⟨kvs, k, .inl e, rfl, rfl⟩
theorem DPut.k {H : Hp} {a : Addr} {kvs : List (Key × V)} {k : Key} {v : V} (e : H a = some (.dK kvs)) (hl : kvs.length < sizeLine) : DPut H a (kV k) v (upd H a (.dK (putK kvs k v))) := .inl ⟨kvs, k, e, rfl, hl, rfl⟩
section
variable {X : Cx} {pins : List (Addr × Obj)} {σ : St} {H : Hp} {s : Shared} {a : Addr} {y v : V} {u r : Value} {o : Option V} {A : Around} {E : Value → Shared → Prop}

theorem Inv.big (I : Inv X pins σ H s) : sysModules < s.heap.objs.size := by
  have h : mainGlobals < s.heap.objs.size := (I.mod.glob.keeps I.bk).lt
  exact Nat.lt_trans (by decide) h

/-- d[y], there -/
theorem d_getItem {Q : Value → Shared → Prop} (hu : A.units + 1 < cLine) (I : Inv X pins σ H s) (g : DGet H a y (some v)) (ry : RelV y u) (h : ∀ w' s', Inv X pins σ H s' → RelV v w' → Q w' s') :
    wpAny (model X.prog X.w) A (getItem (.ref a) u) Q E s := by
  rcases g with ⟨kvs, k, e, ey, l⟩ | ⟨kvs, k, b, e, ey, eb, l⟩
  · subst ey
    obtain ⟨z, hd, vs, rel, dd⟩ := dk_rd I.hok e
    obtain ⟨w', hw, rw'⟩ := RelO.some_of (v := v) (o := valueAt vs k) (by rw [l]; exact rel.val k)
    exact wpAny_getItem_of (kV_is ry) dd.mapOf hw (h w' _ (I.tok _) rw')
  · subst ey
    cases (show u = Value.ref b from ry)
    obtain ⟨z, hd, xs, rel, dd⟩ := dt_rd I.hok e
    obtain ⟨w', hw, rw'⟩ := RelO.some_of (v := v) (o := (atKey xs k).map (·.2)) (by rw [l]; exact rel.val k)
    obtain ⟨p, hp, hp2⟩ := Option.map_eq_some_iff.mp hw
    refine wpAny_getItem_heap (tupleKind_room_in1 hu) (key_of I.hok eb) dd hp ?_
    rw [hp2]
    exact h w' _ (I.tok _) rw'
/-- a dict's object is replaced -/
theorem d_write {h' : Heap} {t' : Nat} {ob : HO} (I : Inv X pins σ H s) (mu : Mut (H a)) (hs : Heap.SameBut a s.heap h') (he : ∃ q, h'.get? a = some q) (new : ObjOk X.prog X.w (upd H a ob) h' a ob) :
    Inv X pins σ (upd H a ob) { s with heap := h', toks := t' } :=
  I.write (x := a) (e := a) mu (.inl rfl) (fun b q hb z => (hs.2 b hb).trans z) he new
theorem dk_new {P : Program} {w : World} {H' : Hp} {h' : Heap} {kvs : List (Key × V)} {vs : List (Key × Value)} (z : kvs.length ≤ sizeLine) (hd : (a == sysModules) = false) (rel : KV kvs vs) (dd : h'.DictOf (mixKind P w) a vs) :
    ObjOk P w H' h' a (.dK kvs) := ⟨z, hd, vs, rel, dd⟩
/-- d[y] = v -/
theorem d_setItem {H' : Hp} {Q : Unit → Shared → Prop} (hu : A.units + 1 < cLine) (I : Inv X pins σ H s) (g : DPut H a y v H') (ry : RelV y u) (rv : RelV v r) (h : ∀ s', Inv X pins σ H' s' → Q () s') :
    wpAny (model X.prog X.w) A (setItem (.ref a) u r) Q E s := by
  rcases g with ⟨kvs, k, e, ey, l, eH⟩ | ⟨kvs, k, b, e, ey, eb, l, eH⟩
  · subst ey eH
    obtain ⟨z, hd, vs, rel, dd⟩ := dk_of I.hok e
    have hz : vs.length ≤ sizeLine := by rw [← rel.length]; exact z
    have hl : (putK kvs k v).length ≤ sizeLine := by have := length_putK kvs k v; omega
    refine wpAny_setItem_pairs (hsz := hz) (kV_is ry) dd fun h' dd' hs => h _ ?_
    have he : ∃ q, h'.get? a = some q := let ⟨q, _, _, hq, _⟩ := dd'; ⟨q, hq⟩
    exact d_write I (by rw [e]; exact True.intro) hs he (dk_new hl hd (rel.put k rv) dd')
  · subst ey eH
    cases (show u = Value.ref b from ry)
    obtain ⟨z, hd, xs, rel, dd⟩ := dt_of I.hok e
    have hz : xs.length ≤ sizeLine := by rw [← Paired.length rel]; exact z
    have hl : (putK kvs k v).length ≤ sizeLine := by have := length_putK kvs k v; omega
    refine wpAny_setItem_heap (hsz := hz) (tupleKind_room_in1 hu) (key_of I.hok eb) dd fun h' dd' hs => h _ ?_
    obtain ⟨q, es, ep, hq, h2, h3, h4, _, h5⟩ := dd'
    refine d_write I (by rw [e]; exact True.intro) hs ⟨q, hq⟩ ⟨hl, hd, _, (rel.put k eb rv).keeps fun c ys ec => ?_, q, es, ep, hq, h2, h3, h4, h5⟩
    rw [upd_ne (ne_of ec e (fun z => nomatch z))]
    exact ec
end

section
variable {X : Cx} {pins : List (Addr × Obj)} {σ : St} {H : Hp} {s : Shared} {a : Addr} {kvs : List (Key × V)} {k : Key} {u : Value} {A : Around} {E : Value → Shared → Prop}
end


/-! ### readings and rules -/
/-- the element of a subscription, not a slice -/
def NoSl (i : Expr) : Prop := ∀ ov iv, subscripted i false ov iv = operate [ov, iv] (getItem ov iv)
theorem subD_of {prog : Program} {w : World} {A : Around} {E : Value → Shared → Prop} {s : Shared} {env : Env} {value slice : Expr} {pos : Pos} {T id : String} {Q : Value → Shared → Prop}
    (hl : typeLookup (.type T) "__getitem__" = pure (some (.builtin id))) (hs : NoSl slice)
    (h : wpAny (model prog w) A (eval value env) (fun o s₁ => wpAny (model prog w) A (eval slice env) (fun i s₂ => s₂.TypeIs o T ∧ wpAny (model prog w) A (getItem o i) Q E s₂) E s₁) E s) :
    wpAny (model prog w) A (eval (.Subscript value slice pos) env) Q E s := by
  refine Subscript_ (wpAny_mono h (fun o s₁ h₁ => wpAny_mono h₁ (fun i s₂ h₂ => ?_) fun _ _ x => x) fun _ _ x => x)
  obtain ⟨hT, h₂⟩ := h₂
  unfold subscriptTail
  refine wpAny_bind ?_
  rw [getitemInPython_of_ne hT.not_modules]
  refine wpAny_bind (wpAny_specialOf hT hl ?_)
  have fin : wpAny (model prog w) A (subscripted slice false o i) (fun r s₃ => wpAny (model prog w) A (letTemporaryGo value o r >>= fun _ => pure r) Q E s₃) E s₂ := by
    rw [hs o i]
    exact wpAny_operating (wpAny_mono h₂ (fun r s₃ h₃ => wpAny_bind (wpAny_letTemporaryGo (wpAny_pure h₃))) fun _ _ x => x)
  first
    | exact wpAny_pure (wpAny_bind fin)
    | exact wpAny_bind (wpAny_pure (wpAny_bind fin))
    | exact wpAny_bind fin

theorem dict_typeIs {X : Cx} {pins : List (Addr × Obj)} {σ : St} {H : Hp} {s : Shared} {a : Addr} {y : V} {o : Option V} (I : Inv X pins σ H s) (g : DGet H a y o) : s.TypeIs (.ref a) "dict" := by
  rcases g with ⟨kvs, k, e, _, _⟩ | ⟨kvs, k, b, e, _, _, _⟩
  · obtain ⟨_, _, vs, _, dd⟩ := dk_rd I.hok e
    exact dd.typeIs
  · obtain ⟨_, _, xs, _, dd⟩ := dt_rd I.hok e
    exact dd.typeIs
/-- d[y] -/
def tDGet (td ty : TE) : TE := fun σ H Q => td σ H fun x H1 => ty σ H1 fun y H2 => ∃ a v, x = .ref a ∧ DGet H2 a y (some v) ∧ Q v H2
/-- d[y] = v -/
def sDPut (td ty tv : TE) : TS := fun D σ H => tv σ H fun v H1 => td σ H1 fun x H2 => ty σ H2 fun y H3 => ∃ a H4, x = .ref a ∧ DPut H3 a y v H4 ∧ D.nx σ H4
section
variable {X : Cx} {o i e value : Expr} {pos pos' tpos : Pos} {td ty tv : TE}
theorem pe_dget (hu : X.A.units + 1 < cLine) (ho : PE X o td) (hi : PE X i ty) (hs : NoSl i) : PE X (.Subscript o i pos) (tDGet td ty) := by
  intro pins s σ H Q I h
  refine subD_of PySem.F.slot_dict_getitem.lookup hs (thn (ho pins s σ H _ I h) fun u s1 ⟨x, H1, I1, rx, q1⟩ => thn (hi pins s1 σ H1 _ I1 q1) fun iv s2 ⟨y, H2, I2, ry, a, v, ex, g, q2⟩ => ?_)
  subst ex
  obtain rfl : u = Value.ref a := rx
  exact ⟨dict_typeIs I2 g, d_getItem hu I2 g ry fun w' s3 I3 rw' => ⟨v, H2, I3, rw', q2⟩⟩
theorem ps_dput (hu : X.A.units + 1 < cLine) (ho : PE X o td) (hi : PE X i ty) (hv : PE X value tv) (hs : swapsWith value (some (.Subscript o i pos')) pos.line X.env = pure false) :
    PS X (.Assign [.Subscript o i pos'] value pos) (sDPut td ty tv) := by
  intro pins s σ H D I h
  refine wpAny_Assign_Subscript (thn (hv pins s σ H _ I h) fun r s1 ⟨v, H1, I1, rv, q1⟩ => thn (ho pins s1 σ H1 _ I1 q1) fun u s2 ⟨x, H2, I2, rx, q2⟩ => thn (hi pins s2 σ H2 _ I2 q2) fun iv s3 ⟨y, H3, I3, ry, a, H4, ex, g, q3⟩ => ?_) hs
  subst ex
  obtain rfl : u = Value.ref a := rx
  exact d_setItem hu I3 g ry rv fun s4 I4 => ⟨σ, H4, I4, q3⟩
end


/-! ### displays -/
theorem dk_empty {P : Program} {w : World} {H : Hp} (h : Heap) (hb : sysModules < h.objs.size) : ObjOk P w H (h.push { cls := .type "dict", data := .dict #[] }) h.objs.size (.dK []) :=
  ⟨Nat.zero_le _, beq_eq_false_iff_ne.mpr (Ne.symm (Nat.ne_of_lt hb)), [], .nil, Heap.DictOf.new h⟩
/-- {}, to be a dict of the kind that is wanted -/
def tDNewK : TE := fun _ H Q => ∀ p, H p = none → Q (.ref p) (upd H p (.dK []))
section
variable {X : Cx} {pos : Pos}
theorem pe_dnewK : PE X (.Dict [] [] pos) tDNewK := fun pins s σ H Q I h =>
  wpAny_Dict_empty ⟨.ref s.heap.objs.size, _, I.laid (a := s.heap.objs.size) (o := .dK []) (t' := s.toks) (fun _ _ q => Heap.get?_push_of_some _ q) (Nat.le_refl _) (dk_empty s.heap I.big), rfl, h _ (I.hok.fresh (Nat.le_refl _))⟩
end

/-- the pairs of a display, from the left -/
def tPairs : List (TE × TE) → St → Hp → (List (V × V) → Hp → Prop) → Prop
  | [], _, H, Q => Q [] H
  | (tk, tv) :: r, σ, H, Q => tk σ H fun x H1 => tv σ H1 fun y H2 => tPairs r σ H2 fun ps H3 => Q ((x, y) :: ps) H3
abbrev VV : List (V × V) → List (Value × Value) → Prop := Paired fun p q => RelV p.1 q.1 ∧ RelV p.2 q.2
def PPs (X : Cx) (pos : Pos) (keys : List (Option Expr)) (values : List Expr) (trs : List (TE × TE)) : Prop :=
  ∀ (pins : List (Addr × Obj)) (s : Shared) (σ : St) (H : Hp) (Q : List (V × V) → Hp → Prop), Inv X pins σ H s → tPairs trs σ H Q →
    wpAny (model X.prog X.w) X.A (evalPairs (pairTrees keys values X.env pos)) (fun vs s' => ∃ ps H', Inv X pins σ H' s' ∧ VV ps vs ∧ Q ps H') X.xe s
theorem pps_nil {X : Cx} {pos : Pos} : PPs X pos [] [] [] := fun pins s σ H Q I h => pairTrees_nil_walk ⟨[], H, I, .nil, h⟩
theorem pps_cons {X : Cx} {pos : Pos} {k v : Expr} {ks : List (Option Expr)} {vs : List Expr} {tk tv : TE} {trs : List (TE × TE)} (hk : PE X k tk) (hv : PE X v tv) (hr : PPs X pos ks vs trs) :
    PPs X pos (some k :: ks) (v :: vs) ((tk, tv) :: trs) := fun pins s σ H Q I h =>
  pairTrees_cons_walk (thn (hk pins s σ H _ I h) fun u s1 ⟨x, H1, I1, rx, q1⟩ => thn (hv pins s1 σ H1 _ I1 q1) fun w2 s2 ⟨y, H2, I2, ry, q2⟩ =>
    thn (hr pins s2 σ H2 _ I2 q2) fun ws s3 ⟨ps, H3, I3, rel, q3⟩ => ⟨(x, y) :: ps, H3, I3, .cons ⟨rx, ry⟩ rel, q3⟩)

def mergeK (kvs more : List (Key × V)) : List (Key × V) := more.foldl (fun acc kv => putK acc kv.1 kv.2) kvs
theorem KV.merge : ∀ {more : List (Key × V)} {rs : List (Key × Value)} {kvs : List (Key × V)} {vs : List (Key × Value)}, KV more rs → KV kvs vs → KV (mergeK kvs more) (merged vs rs) := by
  intro more rs kvs vs r
  unfold KV at r
  induction r generalizing kvs vs with
  | nil => intro q; exact q
  | @cons p q ps qs h t ih =>
    intro r0
    have e : KV (putK kvs p.1 p.2) (stored vs q.1 q.2) := by
      have := r0.put p.1 h.2
      rw [← h.1]; exact this
    exact ih e
theorem length_mergeK : ∀ (more kvs : List (Key × V)), (mergeK kvs more).length ≤ kvs.length + more.length
  | [], kvs => by show kvs.length ≤ kvs.length + 0; omega
  | p :: r, kvs => by
    have h1 := length_mergeK r (putK kvs p.1 p.2)
    have h2 := length_putK kvs p.1 p.2
    show (mergeK (putK kvs p.1 p.2) r).length ≤ _
    rw [List.length_cons]; omega
theorem carries_of {P : Program} {w : World} : ∀ {kvs : List (Key × V)} {ws : List (Value × Value)}, VV (kvs.map fun kv => (kV kv.1, kv.2)) ws → ∃ rs, Carries (mixKind P w) ws rs ∧ KV kvs rs
  | [], _, r => by rw [List.map_nil] at r; cases r; exact ⟨[], True.intro, .nil⟩
  | p :: kvs, _, r => by
    rw [List.map_cons] at r
    cases r with
    | @cons a b as bs h t =>
      obtain ⟨rs, c, q⟩ := carries_of (P := P) (w := w) t
      obtain ⟨b1, b2⟩ := b
      exact ⟨(p.1, b2) :: rs, ⟨kV_is h.1, rfl, c⟩, .cons ⟨rfl, h.2⟩ q⟩
/-- {k: v, ..} with keys ints and texts; the new dict stands empty while the pairs are made -/
def tDisp (trs : List (TE × TE)) : TE := fun σ H Q => ∀ p, H p = none → tPairs trs σ (upd H p (.dK [])) fun ps H2 => H2 p = some (.dK []) ∧ ∃ kvs : List (Key × V), ps = kvs.map (fun kv => (kV kv.1, kv.2)) ∧ kvs.length ≤ 15 ∧ Q (.ref p) (upd H2 p (.dK (mergeK [] kvs)))
theorem pe_disp {X : Cx} {pos : Pos} {keys : List (Option Expr)} {values : List Expr} {trs : List (TE × TE)} (h : PPs X pos keys values trs) (hall : keys.all (·.isSome) = true) (hl : keys.length = values.length) (h0 : keys ≠ [])
    (h15 : keys.length ≤ 15) : PE X (.Dict keys values pos) (tDisp trs) := by
  intro pins s σ H Q I q
  have hn := I.hok.fresh (Nat.le_refl s.heap.objs.size)
  have I1 := I.laid (a := s.heap.objs.size) (o := .dK []) (h' := s.heap.push { cls := .type "dict", data := .dict #[] }) (t' := s.toks) (fun _ _ q => Heap.get?_push_of_some _ q) (Nat.le_refl _) (dk_empty s.heap I.big)
  refine wpAny_Dict_walk (knd := mixKind X.prog X.w) hall hl h0 h15 (thn (h pins _ σ _ _ I1 (q _ hn)) fun ws s2 ⟨ps, H2, I2, rel, e, kvs, ep, lk, q2⟩ => ?_)
  subst ep
  obtain ⟨rs, c, rk⟩ := carries_of (P := X.prog) (w := X.w) rel
  obtain ⟨z, hd, vs0, r0, dd⟩ := dk_of I2.hok e
  cases r0
  refine ⟨rs, c, dd, fun h' dd' hs => ⟨.ref s.heap.objs.size, _, ?_, rfl, q2⟩⟩
  have hz : (mergeK [] kvs).length ≤ sizeLine := by
    have h1 := length_mergeK kvs []
    rw [List.length_nil] at h1
    rw [sizeLine_eq]; omega
  have he : ∃ q, h'.get? s.heap.objs.size = some q := let ⟨q, _, _, hq, _⟩ := dd'; ⟨q, hq⟩
  exact d_write I2 (by rw [e]; exact True.intro) hs he (dk_new hz hd (rk.merge .nil) dd')


/-! ### methods -/
structure M2 (X : Cx) (o : Expr) (m : Str) (apos : Pos) (e f : Expr) (cpos : Pos) : Prop where
  base : attributeBase o m X.env (eval o X.env) = eval o X.env
  few : ((backTo cpos (starEach [e, f] X.env)).all (fun x => !x.1) && (backToKw cpos (keywordEach [] X.env)).all (fun x => x.1.isSome)
    && decide (([e, f] : List Expr).length + ([] : List Keyword).length + (if ([] : List Keyword).isEmpty then 0 else 1) < 30)) = true
  line : (apos.endLine == cpos.line) = true
  trees : backTo cpos (starEach [e, f] X.env) = [(false, eval e X.env), (false, eval f X.env)]

/-- a is a dict, whatever its keys -/
def IsD (H : Hp) (a : Addr) : Prop := (∃ kvs, Rd H a (.dK kvs)) ∨ ∃ kvs, Rd H a (.dT kvs)
theorem isD_at {X : Cx} {pins : List (Addr × Obj)} {σ : St} {H : Hp} {s : Shared} {a : Addr} (I : Inv X pins σ H s) (d : IsD H a) :
    s.TypeIs (.ref a) "dict" ∧ (∀ b, Value.ref a = .ref b → ∃ ob, s.heap.get? b = some ob ∧ ob.dict = none) ∧ (a == sysModules) = false := by
  rcases d with ⟨kvs, e⟩ | ⟨kvs, e⟩
  · obtain ⟨_, hd, vs, _, dd⟩ := dk_rd I.hok e
    refine ⟨dd.typeIs, fun b q => ?_, hd⟩
    cases q
    obtain ⟨ob, _, _, h1, h2, _⟩ := dd
    exact ⟨ob, h1, h2.2.1⟩
  · obtain ⟨_, hd, xs, _, dd⟩ := dt_rd I.hok e
    refine ⟨dd.typeIs, fun b q => ?_, hd⟩
    cases q
    obtain ⟨ob, _, _, h1, h2, _⟩ := dd
    exact ⟨ob, h1, h2.2.1⟩

section
variable {X : Cx} {pins : List (Addr × Obj)} {σ : St} {H : Hp} {s : Shared} {a : Addr} {y d : V} {u r : Value} {o : Option V} {A : Around} {E : Value → Shared → Prop}
/-- d.get(y, x) -/
theorem d_get2 {Q : Value → Shared → Prop} (hu : A.units + 1 < cLine) (I : Inv X pins σ H s) (g : DGet H a y o) (ry : RelV y u) (rd : RelV d r) (h : ∀ w' s', Inv X pins σ H s' → RelV (o.getD d) w' → Q w' s') :
    wpAny (model X.prog X.w) A (call (.builtin "dict.get") [.ref a, u, r]) Q E s := by
  rcases g with ⟨kvs, k, e, ey, l⟩ | ⟨kvs, k, b, e, ey, eb, l⟩
  · subst ey
    obtain ⟨z, hd, vs, rel, dd⟩ := dk_rd I.hok e
    refine call_meetsIn PySem.F.slot_dict_get dd.typeIs PySem.F.entry_dict_get (PySem.F.args_dict_get_3 _ _ _) (meets_dict_get_default (mixKind X.prog X.w) a (kV_is ry) hd r) ⟨_, dd.mapOf, h _ _ (I.tok _) ?_⟩
    rw [l]
    exact (rel.val k).getD rd
  · subst ey
    cases (show u = Value.ref b from ry)
    obtain ⟨z, hd, xs, rel, dd⟩ := dt_rd I.hok e
    refine call_meetsIn PySem.F.slot_dict_get dd.typeIs PySem.F.entry_dict_get (PySem.F.args_dict_get_3 _ _ _) (meetsH_dict_get_default (tupleKind (mixKind X.prog X.w)) a b hd r) ⟨tupleKind_room_in1 hu, k, xs, key_of I.hok eb, dd, h _ _ (I.tok _) ?_⟩
    rw [l]
    exact (rel.val k).getD rd
end

def tDGet2 (td ty tx : TE) : TE := fun σ H Q => td σ H fun x H1 => ∃ a, x = .ref a ∧ IsD H1 a ∧ ty σ H1 fun y H2 => tx σ H2 fun z H3 => ∃ o, DGet H3 a y o ∧ Q (o.getD z) H3
section
variable {X : Cx} {o e f : Expr} {apos cpos : Pos} {td ty tx : TE}
theorem pe_dget2 (hu : X.A.units + 1 < cLine) (ho : PE X o td) (he : PE X e ty) (hf : PE X f tx) (m : M2 X o "get" apos e f cpos) : PE X (.Call (.Attribute o "get" apos) [e, f] [] cpos) (tDGet2 td ty tx) := by
  intro pins s σ H Q I h
  refine wpAny_Call_method m.base m.few m.line PySem.F.plainAttrs_dict PySem.F.slot_dict_get PySem.F.type_dict_get (thn (ho pins s σ H _ I h) fun u s1 ⟨x, H1, I1, rx, a, ex, d, q1⟩ => ?_)
  subst ex
  obtain rfl : u = Value.ref a := rx
  obtain ⟨t1, t2, _⟩ := isD_at I1 d
  refine ⟨t1, t2, ?_⟩
  rw [m.trees]
  refine Calls.callWith_builtin rfl (Calls.evalArgs_plain (Calls.spliced_cons (thn (he pins s1 σ H1 _ I1 q1) fun iv s2 ⟨y, H2, I2, ry, q2⟩ =>
    Calls.spliced_cons (thn (hf pins s2 σ H2 _ I2 q2) fun fv s3 ⟨z, H3, I3, rz, ov, g, q3⟩ => Calls.spliced_nil ?_))))
  exact d_get2 hu I3 g ry rz fun w' s4 I4 rw' => ⟨_, H3, I4, rw', q3⟩
end

/-! ### dict(d): a copy -/
section
variable {X : Cx} {pins : List (Addr × Obj)} {σ : St} {H : Hp} {s : Shared} {a : Addr} {kvs : List (Key × V)} {A : Around} {E : Value → Shared → Prop}
end


section
variable {X : Cx} {pins : List (Addr × Obj)} {σ : St} {H : Hp} {s : Shared} {a : Addr} {y : V} {u : Value} {A : Around} {E : Value → Shared → Prop}
end
end L2

namespace HT
open PySem PyProof.Rows

section
open PySem.SeqAt
open PySem.AutoSeq1 (wpAny_loadPart')
open PySem.MeetsSeq PySem.MeetsSeq2 PySem.MeetsSeq3

end

section
variable {prog : Program} {w : World} {A : Around} {E : Value → Shared → Prop} {s : Shared}

/-! ### t[a:b], not the whole -/
/-- a slice's bound as a place among n (d where it is left out) -/
def sIx (n d : Nat) : Option Int → Nat
  | none => d
  | some v => if v < 0 then (v + (n : Int)).toNat else min v.toNat n
theorem sIx_none (n d : Nat) : sIx n d none = d := rfl
theorem sIx_nat (n d k : Nat) : sIx n d (some (k : Int)) = min k n := by
  show (if (k : Int) < 0 then ((k : Int) + (n : Int)).toNat else min (k : Int).toNat n) = min k n
  rw [if_neg (by omega), Int.toNat_natCast]
end
end HT

namespace L2
open PySem PySem.Spec PyProof.Rows

/-! ### the parts of a slice -/
abbrev TO := St → Hp → (Option Int → Hp → Prop) → Prop
/-- a slice's part (left out, or an int) -/
def PO (X : Cx) (e : Option Expr) (t : TO) : Prop :=
  ∀ (pins : List (Addr × Obj)) (s : Shared) (σ : St) (H : Hp) (Q : Option Int → Hp → Prop), Inv X pins σ H s → t σ H Q →
    wpAny (model X.prog X.w) X.A (evalPart e X.env) (fun u s' => ∃ o H', Inv X pins σ H' s' ∧ IsPart u o ∧ Q o H') X.xe s
def tNoPart : TO := fun _ H Q => Q none H
def tPart (t : TE) : TO := fun σ H Q => t σ H fun x H1 => ∃ i, x = .int i ∧ Q (some i) H1

theorem intsAre_of {ns : List Int} : ∀ {us : List Value}, Vals (ns.map V.int) us → IntsAre us ns := by
  induction ns with
  | nil => intro us r; rw [List.map_nil] at r; cases r; exact .nil
  | cons n ns ih =>
    intro us r
    rw [List.map_cons] at r
    cases r with
    | cons r1 r2 =>
      obtain ⟨t, e⟩ := r1
      subst e
      exact .cons n t (ih r2)

section
variable {X : Cx} {e : Expr} {te : TE} {lo hi : Option Expr} {tl th : TO} {pos p2 : Pos}

theorem po_none : PO X none tNoPart := by
  intro pins s σ H Q I h
  rw [evalPart_none]
  exact wpAny_pure ⟨none, H, I, .none, h⟩
theorem po_some (h : PE X e te) : PO X (some e) (tPart te) := by
  intro pins s σ H Q I hw
  rw [evalPart_some]
  refine thn (h pins s σ H _ I hw) fun u s1 ⟨x, H1, I1, r1, q1⟩ => ?_
  obtain ⟨i, rfl, q⟩ := q1
  obtain ⟨t, rfl⟩ := r1
  exact ⟨some i, H1, I1, .int i t, q⟩

/-- what a slice of a value is, by values: the slice object stands at sl -/
def SlR (X : Cx) (r : V → Option Int → Option Int → Hp → VK → Prop) : Prop :=
  ∀ (pins : List (Addr × Obj)) (s : Shared) (σ : St) (H : Hp) (x : V) (v vl vu : Value) (lo hi : Option Int) (sl : Addr) (Q : VK), Inv X pins σ H s → RelV x v → s.heap.IsSliceOf sl vl vu .none → IsPart vl lo → IsPart vu hi → r x lo hi H Q →
    ∃ T id, typeLookup (.type T) "__getitem__" = pure (some (.builtin id)) ∧ s.TypeIs v T ∧ wpAny (model X.prog X.w) X.A (getItem v (.ref sl)) (EP X pins σ Q) X.xe s
def tSl (r : V → Option Int → Option Int → Hp → VK → Prop) (te : TE) (tl th : TO) : TE := fun σ H Q => te σ H fun x H1 => tl σ H1 fun l H2 => th σ H2 fun u H3 => r x l u H3 Q
/-- a[lo:hi], any a -/
theorem pe_slice {r : V → Option Int → Option Int → Hp → VK → Prop} (hr : SlR X r) (he : PE X e te) (hl : PO X lo tl) (hu : PO X hi th) : PE X (.Subscript e (.Slice lo hi none p2) pos) (tSl r te tl th) := by
  intro pins s σ H Q I h
  refine Subscript_ (thn (he pins s σ H _ I h) fun v s1 ⟨x, H1, I1, r1, q1⟩ => ?_)
  refine wpAny_Slice (thn (hl pins s1 σ H1 _ I1 q1) fun vl s2 ⟨l, H2, I2, pl, q2⟩ => thn (hu pins s2 σ H2 _ I2 q2) fun vu s3 ⟨u, H3, I3, pu, q3⟩ => ?_)
  rw [evalPart_none]
  refine wpAny_pure ?_
  have I4 : Inv X pins σ H3 { s3 with heap := s3.heap.push { cls := .type "slice", data := .fields #[vl, vu, .none] } } := I3.kept (t' := s3.toks) fun b ob q => Heap.get?_push_of_some _ q
  obtain ⟨T, id, hT, ht, hg⟩ := hr pins { s3 with heap := s3.heap.push { cls := .type "slice", data := .fields #[vl, vu, .none] } } σ H3 x v vl vu l u s3.heap.objs.size Q I4 r1 (Heap.IsSliceOf.new ..) pl pu q3
  show wpAny (model X.prog X.w) X.A (subscriptTail e (.Slice lo hi none p2) v (.ref s3.heap.objs.size)) (EP X pins σ Q) X.xe { s3 with heap := s3.heap.push { cls := .type "slice", data := .fields #[vl, vu, .none] } }
  exact tail_any (ops := [.ref s3.heap.objs.size, v]) ht hT hg (by with_unfolding_all rfl)

/-- the items of xs[lo:hi] -/
def cutV (xs : List V) (lo hi : Option Int) : List V := (xs.drop (HT.sIx xs.length 0 lo)).take (HT.sIx xs.length xs.length hi - HT.sIx xs.length 0 lo)
theorem cutV_length (xs : List V) (lo hi : Option Int) : (cutV xs lo hi).length ≤ xs.length := by
  unfold cutV
  rw [List.length_take, List.length_drop]
  omega
/-! ### t < u, t + u -/
end
end L2

namespace L2
open PySem PySem.Spec PyProof.Rows

/-! ### places -/
/-- the place that an index of any sign means -/
def ixN (n : Nat) (i : Int) : Option Nat := if 0 ≤ i then (if i < n then some i.toNat else none) else if -(n : Int) ≤ i then some (i + n).toNat else none
def atI {α : Type} (xs : List α) (i : Int) : Option α := (ixN xs.length i).bind fun j => xs[j]?
theorem ixN_seq {n : Nat} {i : Int} {j : Nat} (h : ixN n i = some j) : seqIndex? i n = some j ∧ j < n ∧ -(n : Int) ≤ i ∧ i < n := by
  unfold ixN at h
  by_cases h0 : 0 ≤ i
  · rw [if_pos h0] at h
    by_cases h1 : i < n
    · rw [if_pos h1] at h
      have e : i.toNat = j := Option.some.inj h
      exact ⟨by rw [seqIndex_of h0 h1, e], by omega, by omega, h1⟩
    · rw [if_neg h1] at h; cases h
  · rw [if_neg h0] at h
    by_cases h1 : -(n : Int) ≤ i
    · rw [if_pos h1] at h
      have e : (i + n).toNat = j := Option.some.inj h
      exact ⟨by rw [seqIndex_neg (by omega) h1, e], by omega, h1, by omega⟩
    · rw [if_neg h1] at h; cases h
theorem atI_get {α : Type} {xs : List α} {i : Int} {v : α} (h : atI xs i = some v) : ∃ j, seqIndex? i xs.length = some j ∧ xs[j]? = some v ∧ j < xs.length ∧ -(xs.length : Int) ≤ i ∧ i < xs.length := by
  unfold atI at h
  cases e : ixN xs.length i with
  | none => rw [e] at h; cases h
  | some j =>
    rw [e] at h
    obtain ⟨h1, h2, h3, h4⟩ := ixN_seq e
    exact ⟨j, h1, h, h2, h3, h4⟩
theorem atI_nat {α : Type} {xs : List α} {j : Nat} {v : α} (h : xs[j]? = some v) : atI xs (j : Int) = some v := by
  have hj : j < xs.length := (List.getElem?_eq_some_iff.mp h).1
  have e : ixN xs.length (j : Int) = some j := by
    unfold ixN
    rw [if_pos (by omega), if_pos (by omega)]; simp
  unfold atI; rw [e]; exact h
/-! ### what may be subscripted -/
/-- what stands as an index of a plain subscript -/
def PlainIx (b : Expr) : Prop := ∀ o i, subscripted b false o i = operate [o, i] (getItem o i)
/-- a subscript by values -/
def IxR (X : Cx) (r : R2) : Prop :=
  ∀ (value slice : Expr) (pins : List (Addr × Obj)) (s : Shared) (σ : St) (H : Hp) (x y : V) (v u : Value) (Q : VK), Inv X pins σ H s → RelV x v → RelV y u → r x y H Q →
    subscripted slice false v u = operate [v, u] (getItem v u) → wpAny (model X.prog X.w) X.A (subscriptTail value slice v u) (EP X pins σ Q) X.xe s
/-- a call of a builtin's method by values: the receiver, the arguments -/
def MtR (X : Cx) (id : String) (r : V → List V → Hp → VK → Prop) : Prop :=
  ∀ (pins : List (Addr × Obj)) (s : Shared) (σ : St) (H : Hp) (x : V) (xs : List V) (v : Value) (us : List Value) (Q : VK), Inv X pins σ H s → RelV x v → Vals xs us → r x xs H Q →
    wpAny (model X.prog X.w) X.A (call (.builtin id) (v :: us)) (EP X pins σ Q) X.xe s
section
variable {X : Cx} {a b : Expr} {ta tb : TE} {pos : Pos}
/-- a[b] -/
theorem pe_ix {r : R2} (hr : IxR X r) (ha : PE X a ta) (hb : PE X b tb) (hs : PlainIx b) : PE X (.Subscript a b pos) (tOp r ta tb) := by
  intro pins s σ H Q I h
  exact Subscript_ (binT ha hb I h fun v u s2 x y H2 I2 rx ry q => hr a b pins s2 σ H2 x y v u Q I2 rx ry q (hs _ _))

def rIxL (K : PySem.W.Frag) : R2 := fun x y H Q => ∃ p xs i v, x = .ref p ∧ y = .int i ∧ SqL K H p xs ∧ atI xs i = some v ∧ Q v H
def rIxT (K : PySem.W.Frag) : R2 := fun x y H Q => ∃ p xs i v, x = .ref p ∧ y = .int i ∧ SqT K H p xs ∧ atI xs i = some v ∧ Q v H
def rIxS : R2 := fun x y H Q => ∃ z i c, x = .str z ∧ y = .int i ∧ z.length ≤ sizeLine ∧ atI z.cps.toList i = some c ∧ Q (.str ⟨#[c]⟩) H
theorem ix_list : IxR X (rIxL X.K) := by
  intro value slice pins s σ H x y v u Q I rx ry h hs
  obtain ⟨p, xs, i, z, rfl, rfl, hq, he, q⟩ := h
  cases rx
  obtain ⟨t, rfl⟩ := ry
  obtain ⟨its, r, pl, hz⟩ := I.list hq
  obtain ⟨j, h1, h2, h3, h4, h5⟩ := atI_get he
  obtain ⟨w, ew, rw'⟩ := r.get h2
  have hl := r.length
  have hn := line63
  have fin : EP X pins σ Q w s := ⟨z, H, I, rw', q⟩
  by_cases h0 : 0 ≤ i
  · have hj : i.toNat = j := by
      rw [seqIndex_of h0 h5] at h1
      exact Option.some.inj h1
    exact item_listR pl.isList h0 (by omega) (by rw [hj]; simpa using ew) fin hs
  · have hj : (i + (its.toArray.size : Int)).toNat = j := by
      rw [seqIndex_neg (by omega) h4] at h1
      rw [List.size_toArray, ← hl]
      exact Option.some.inj h1
    exact subscriptTail_builtinR (x := w) pl.isList.typeIs slot_list_getitem.lookup
      (wpAny_getItem_list_neg (Q := fun r s' => r = w ∧ EP X pins σ Q r s') pl.isList (by omega) (by rw [List.size_toArray] <;> omega) (by omega) (by rw [hj]; simpa using ew) ⟨rfl, fin⟩) hs
theorem ix_tup : IxR X (rIxT X.K) := by
  intro value slice pins s σ H x y v u Q I rx ry h hs
  obtain ⟨p, xs, i, z, rfl, rfl, hq, he, q⟩ := h
  cases rx
  obtain ⟨t, rfl⟩ := ry
  obtain ⟨its, r, pl, hz⟩ := I.tuple hq
  obtain ⟨j, h1, h2, h3, h4, h5⟩ := atI_get he
  obtain ⟨w, ew, rw'⟩ := r.get h2
  have hl := r.length
  have hn := line63
  have fin : EP X pins σ Q w s := ⟨z, H, I, rw', q⟩
  exact subscriptTail_builtinR (x := w) pl.typeIs slot_tuple_getitem.lookup
    (getItem_tuple (j := j) (Q := fun r s' => r = w ∧ EP X pins σ Q r s') pl (by omega) (by omega) (by rw [List.size_toArray, ← hl]; exact h1) (by simpa using ew) ⟨rfl, fin⟩) hs
theorem ix_str : IxR X rIxS := by
  intro value slice pins s σ H x y v u Q I rx ry h hs
  obtain ⟨z, i, c, rfl, rfl, hz, he, q⟩ := h
  obtain ⟨t, rfl⟩ := rx
  obtain ⟨t', rfl⟩ := ry
  obtain ⟨j, h1, h2, h3, h4, h5⟩ := atI_get he
  have hl : z.cps.toList.length = z.length := by simp [Str.length]
  rw [hl] at h1 h4 h5
  have hn := line63
  exact tail_any (typeIs_str s z t) slot_str_getitem.lookup (getItem_str (c := c) (by
    have e1 : decide (i < -(2 ^ 63 : Int)) = false := decide_eq_false (by omega)
    have e2 : decide (i ≥ 2 ^ 63) = false := decide_eq_false (by omega)
    rw [e1, e2, Bool.or_false]) (by rw [h1]; simpa using h2) ⟨.str ⟨#[c]⟩, H, I.tok _, ⟨_, rfl⟩, q⟩) hs
/-! ### xs[i] = v, any sign -/
/-- the list's object behind a store -/
theorem mapSeq_set (its : List Value) (n j : Nat) (u : Value) : Obj.mapSeq (·.setIfInBounds j u) { cls := .type "list", data := .seq its.toArray n } = { cls := .type "list", data := .seq (its.set j u).toArray n } := by
  simp [Obj.mapSeq]
theorem Inv.lst {pins : List (Addr × Obj)} {σ : St} {H : Hp} {s : Shared} {p : Addr} {xs : List V} (I : Inv X pins σ H s) (h : H p = some (.lst xs)) :
    ∃ (its : List Value) (n : Nat), Vals xs its ∧ s.heap.get? p = some { cls := .type "list", data := .seq its.toArray n } ∧ xs.length ≤ sizeLine := by
  obtain ⟨z, its, n, r, e⟩ := I.hok p _ h
  exact ⟨its, n, r, e, z⟩
/-- the list at p is written by an update of its object -/
theorem Inv.lstUpd {pins : List (Addr × Obj)} {σ : St} {H : Hp} {s : Shared} {p : Addr} {xs ys : List V} {its its' : List Value} {n n' : Nat} {f : Obj → Obj} (I : Inv X pins σ H s) (h : H p = some (.lst xs))
    (ho : s.heap.get? p = some { cls := .type "list", data := .seq its.toArray n }) (hf : f { cls := .type "list", data := .seq its.toArray n } = { cls := .type "list", data := .seq its'.toArray n' }) (r : Vals ys its') (hz : ys.length ≤ sizeLine) (t : Nat) :
    Inv X pins σ (upd H p (.lst ys)) { s with heap := s.heap.update p f, toks := t } := by
  have e : (s.heap.update p f).get? p = some { cls := .type "list", data := .seq its'.toArray n' } := by
    rw [Heap.get?_update_self f ho (by rw [hf] <;> rfl), hf]
  refine I.write (x := p) (e := p) (by rw [h]; trivial) (.inl rfl) (fun b u hb q => (Heap.get?_update_other _ _ (Ne.symm hb)).trans q) ⟨_, e⟩ ?_
  exact ⟨hz, its', n', r, e⟩
def rSetL : V → V → V → Hp → (Hp → Prop) → Prop := fun o i v H Q => ∃ p xs k j, o = .ref p ∧ i = .int k ∧ H p = some (.lst xs) ∧ ixN xs.length k = some j ∧ Q (upd H p (.lst (xs.set j v)))
theorem set_list : PSet X rSetL := by
  intro pins s σ H o i v ov iv u Q I ro ri rv h
  obtain ⟨p, xs, k, j, rfl, rfl, hp, hj, q⟩ := h
  cases ro
  obtain ⟨t, rfl⟩ := ri
  obtain ⟨its, n, r, ho, hz⟩ := I.lst hp
  obtain ⟨h1, h2, h3, h4⟩ := ixN_seq hj
  have hl := r.length
  have hn := line63
  have I' : Inv X pins σ (upd H p (.lst (xs.set j v))) { s with heap := s.heap.update p (Obj.mapSeq (·.setIfInBounds j u)) } :=
    I.lstUpd hp ho (mapSeq_set its n j u) (r.set rv j) (by rw [List.length_set]; exact hz) s.toks
  by_cases h0 : 0 ≤ k
  · have hk : k.toNat = j := by
      rw [seqIndex_of h0 h4] at h1
      exact Option.some.inj h1
    exact PySem.W.ki_setAt ho h0 (by omega) (by rw [List.size_toArray, ← hl]; exact h4) (by rw [hk]; exact ⟨_, I', q⟩)
  · have hk : (k + (its.toArray.size : Int)).toNat = j := by
      rw [seqIndex_neg (by omega) h3] at h1
      rw [List.size_toArray, ← hl]
      exact Option.some.inj h1
    exact PySem.W.ki_setBack ho (by omega) (by rw [List.size_toArray, ← hl]; exact h3) (by omega) (by rw [hk]; exact ⟨_, I', q⟩)

/-! ### slices -/
theorem slice_bounds (lo hi : Option Int) (n : Nat) : (sliceBounds lo hi none n).1 = ((HT.sIx n 0 lo : Nat) : Int) ∧ (sliceBounds lo hi none n).2.1 = ((HT.sIx n n hi : Nat) : Int) ∧ (sliceBounds lo hi none n).2.2 = 1 := by
  refine ⟨?_, ?_, rfl⟩
  · cases lo with
    | none => simp [sliceBounds, HT.sIx]
    | some i =>
      simp only [sliceBounds, HT.sIx, Option.getD_none, show (1 : Int) > 0 by decide, if_true]
      by_cases h : i < 0
      · simp only [h, if_true] <;> omega
      · simp only [h, if_false] <;> omega
  · cases hi with
    | none => simp [sliceBounds, HT.sIx]
    | some i =>
      simp only [sliceBounds, HT.sIx, Option.getD_none, show (1 : Int) > 0 by decide, if_true]
      by_cases h : i < 0
      · simp only [h, if_true] <;> omega
      · simp only [h, if_false] <;> omega
theorem slicePick_cut (its : List Value) (lo hi : Option Int) : slicePick its.toArray lo hi none = ((its.drop (HT.sIx its.length 0 lo)).take (HT.sIx its.length its.length hi - HT.sIx its.length 0 lo)).toArray := by
  obtain ⟨h1, h2, h3⟩ := slice_bounds lo hi its.toArray.size
  unfold slicePick
  rw [h1, h2, h3]
  simp only [sliceRange_one, pick_run, List.size_toArray] <;> rfl
/-- xs[lo:hi] of a list: a new list -/
def rSlL (K : PySem.W.Frag) : V → Option Int → Option Int → Hp → VK → Prop := fun x lo hi H Q => ∃ a xs, x = .ref a ∧ SqL K H a xs ∧ ∀ p, H p = none → Q (.ref p) (upd H p (.lst (cutV xs lo hi)))
theorem sl_list : SlR X (rSlL X.K) := by
  intro pins s σ H x v vl vu lo hi sl Q I rx hs pl pu h
  obtain ⟨a, xs, rfl, hx, q⟩ := h
  cases rx
  obtain ⟨its, r, ht, hz⟩ := I.list hx
  have hlen := r.length
  refine ⟨"list", _, slot_list_getitem.lookup, ht.isList.typeIs, ?_⟩
  refine wpAny_getItem_list_slice ht.isList hs pl pu .none (by simp) ?_ (by rw [List.size_toArray] <;> omega)
  rw [slicePick_cut, ← hlen]
  refine ⟨.ref s.heap.objs.size, _, I.laid (t' := s.toks) (o := .lst (cutV xs lo hi)) (fun b ob q => Heap.get?_push_of_some _ q) (Nat.le_refl _) ?_, rfl, q _ (I.hok.fresh (Nat.le_refl _))⟩
  exact ⟨Nat.le_trans (cutV_length xs lo hi) hz, _, 0, (r.drop (HT.sIx xs.length 0 lo)).take (HT.sIx xs.length xs.length hi - HT.sIx xs.length 0 lo), Heap.get?_push_size _ rfl⟩

/-! ### in, not in: flat items -/
def flatV : V → Bool
  | .non => true
  | .bl _ => true
  | .int _ => true
  | .str _ => true
  | _ => false
/-- == of flat values -/
def eqV : V → V → Bool
  | .non, .non => true
  | .bl a, .bl b => a == b
  | .bl a, .int b => (if a then 1 else 0) == b
  | .int a, .bl b => a == (if b then 1 else 0)
  | .int a, .int b => a == b
  | .str a, .str b => a == b
  | _, _ => false
theorem eqAt_V {A : Around} {s : Shared} {y x : V} {u v : Value} (ry : RelV y u) (rx : RelV x v) (fy : flatV y = true) (fx : flatV x = true) : SeqAt.EqAt A s u v (eqV y x) := by
  cases y with
  | non =>
    cases ry
    cases x with
    | non => cases rx; exact SeqAt.EqAt.same _
    | bl b => cases rx; exact SeqAt.EqAt.none_bool b
    | int b => obtain ⟨t, rfl⟩ := rx; exact SeqAt.EqAt.none_int b t
    | str b => obtain ⟨t, rfl⟩ := rx; exact SeqAt.EqAt.none_str b t
    | _ => exact absurd (show false = true from fx) Bool.false_ne_true
  | bl a =>
    cases ry
    cases x with
    | non => cases rx; exact SeqAt.EqAt.bool_none a
    | bl b => cases rx; exact SeqAt.EqAt.bool_bool a b
    | int b => obtain ⟨t, rfl⟩ := rx; exact SeqAt.EqAt.bool_int a b t
    | str b => obtain ⟨t, rfl⟩ := rx; exact SeqAt.EqAt.bool_str a b t
    | _ => exact absurd (show false = true from fx) Bool.false_ne_true
  | int a =>
    obtain ⟨t', rfl⟩ := ry
    cases x with
    | non => cases rx; exact SeqAt.EqAt.int_none a t'
    | bl b => cases rx; exact SeqAt.EqAt.int_bool a t' b
    | int b => obtain ⟨t, rfl⟩ := rx; exact SeqAt.EqAt.int_int a t' b t
    | str b => obtain ⟨t, rfl⟩ := rx; exact SeqAt.EqAt.int_str a t' b t
    | _ => exact absurd (show false = true from fx) Bool.false_ne_true
  | str a =>
    obtain ⟨t', rfl⟩ := ry
    cases x with
    | non => cases rx; exact SeqAt.EqAt.str_none a t'
    | bl b => cases rx; exact SeqAt.EqAt.str_bool a t' b
    | int b => obtain ⟨t, rfl⟩ := rx; exact SeqAt.EqAt.str_int a t' b t
    | str b => obtain ⟨t, rfl⟩ := rx; exact SeqAt.EqAt.str_str a t' b t
    | _ => exact absurd (show false = true from fx) Bool.false_ne_true
  | _ => exact absurd (show false = true from fy) Bool.false_ne_true
/-- the items' answers, read off the values (a value's own answer does not lean on its token) -/
def eqU (x : V) (u : Value) : Bool := match u with
  | .none => eqV .non x
  | .bool b => eqV (.bl b) x
  | .int i _ => eqV (.int i) x
  | .str z _ => eqV (.str z) x
  | _ => false
theorem eqU_of {x y : V} {u : Value} (r : RelV y u) (f : flatV y = true) : eqU x u = eqV y x := by
  cases y with
  | non => cases r; rfl
  | bl b => cases r; rfl
  | int i => obtain ⟨t, rfl⟩ := r; rfl
  | str z => obtain ⟨t, rfl⟩ := r; rfl
  | _ => exact absurd (show false = true from f) Bool.false_ne_true
theorem any_eqU {x : V} : ∀ {xs : List V} {us : List Value}, Vals xs us → xs.all flatV = true → us.any (eqU x) = xs.any fun y => eqV y x
  | _, _, .nil, _ => rfl
  | y :: xs, u :: us, .cons r t, f => by
    rw [List.all_cons, Bool.and_eq_true] at f
    rw [List.any_cons, List.any_cons, eqU_of r f.1, any_eqU t f.2]
theorem mem_eqAt {A : Around} {s : Shared} {x : V} {v : Value} (rx : RelV x v) (fx : flatV x = true) : ∀ {xs : List V} {us : List Value}, Vals xs us → xs.all flatV = true → ∀ u ∈ us, SeqAt.EqAt A s u v (eqU x u)
  | _, _, .nil, _ => fun u hu => by cases hu
  | y :: xs, u :: us, .cons r t, f => fun u' hu => by
    rw [List.all_cons, Bool.and_eq_true] at f
    rcases List.mem_cons.mp hu with rfl | hu
    · rw [eqU_of r f.1]; exact eqAt_V r rx f.1 fx
    · exact mem_eqAt rx fx t f.2 u' hu
def inV (x : V) (xs : List V) : Bool := xs.any fun y => eqV y x
/-- x in a list or tuple of flat items -/
def rIn (K : PySem.W.Frag) (neg : Bool) : R2 := fun x y H Q => ∃ p xs, y = .ref p ∧ (SqL K H p xs ∨ SqT K H p xs) ∧ flatV x = true ∧ xs.all flatV = true ∧ Q (.bl (if neg then !inV x xs else inV x xs)) H
theorem op_in_seq : OpR X (compareOp .In) (rIn X.K false) := by
  intro pins s σ H x y v u Q I rx ry h
  obtain ⟨p, xs, rfl, hq, fx, fs, q⟩ := h
  cases ry
  rcases hq with hq | hq
  · obtain ⟨its, r, pl, hz⟩ := I.list hq
    refine SeqAt.in_listAt (eqU x) pl.isList (fun w hw => mem_eqAt rx fx r fs w (by simpa using hw)) ⟨.bl _, H, I, rfl, ?_⟩
    rw [show its.toArray.any (eqU x) = its.any (eqU x) by simp, any_eqU r fs]
    exact q
  · obtain ⟨its, r, pl, hz⟩ := I.tuple hq
    refine SeqAt.in_tupleAt (eqU x) pl (fun w hw => mem_eqAt rx fx r fs w (by simpa using hw)) ⟨.bl _, H, I, rfl, ?_⟩
    rw [show its.toArray.any (eqU x) = its.any (eqU x) by simp, any_eqU r fs]
    exact q
/-! ### len, list(x), tuple(x) of any list or tuple that is read -/
theorem call_len_seq : CallR X (.builtin "len") (fun xs H Q => ∃ p ys, xs = [.ref p] ∧ (SqL X.K H p ys ∨ SqT X.K H p ys) ∧ Q (.int ys.length) H) := by
  intro pins s σ H xs us Q I r h
  obtain ⟨p, ys, rfl, hq, q⟩ := h
  obtain ⟨u, rfl, rx⟩ := vals1 r
  cases rx
  have hn := line63
  rcases hq with hq | hq
  · obtain ⟨its, r', pl, hz⟩ := I.list hq
    have hlen := r'.length
    exact Calls.call_len_list pl.isList (by simp only [List.size_toArray] <;> omega) ⟨.int ys.length, H, I.tok _, ⟨s.toks + 1, by rw [List.size_toArray, hlen]⟩, q⟩
  · obtain ⟨its, r', pl, hz⟩ := I.tuple hq
    have hlen := r'.length
    exact len_tuple pl (by simp only [List.size_toArray] <;> omega) ⟨.int ys.length, H, I.tok _, ⟨s.toks + 1, by rw [List.size_toArray, hlen]⟩, q⟩
theorem call_tuple_of : CallR X (.type "tuple") (fun xs H Q => ∃ p ys, xs = [.ref p] ∧ ((SqL X.K H p ys ∧ ∀ l, H l = none → Q (.ref l) (upd H l (.tup ys))) ∨ (SqT X.K H p ys ∧ Q (.ref p) H))) := by
  intro pins s σ H xs us Q I r h
  obtain ⟨p, ys, rfl, h⟩ := h
  obtain ⟨u, rfl, rx⟩ := vals1 r
  cases rx
  rcases h with ⟨hq, q⟩ | ⟨hq, q⟩
  · obtain ⟨its, r', pl, hz⟩ := I.list hq
    have hlen := r'.length
    refine call_tuple_list pl.isList (fun h' kp => ?_) (by simp only [List.size_toArray] <;> omega)
    have I1 : Inv X pins σ H { s with heap := h' } := I.kept (t' := s.toks) kp
    have I2 : Inv X pins σ (upd H h'.objs.size (.tup ys)) { s with heap := h'.push { cls := .type "tuple", data := .seq its.toArray } } :=
      I1.laid (t' := s.toks) (fun b o e => Heap.get?_push_of_some _ e) (Nat.le_refl _) (show ObjOk X.prog X.w _ _ _ (.tup ys) from ⟨hz, its, r', IsTup.new _ _⟩)
    exact ⟨.ref h'.objs.size, _, I2, rfl, q _ (I1.hok.fresh (Nat.le_refl _))⟩
  · obtain ⟨its, r', pl, hz⟩ := I.tuple hq
    exact call_tuple_same pl ⟨.ref p, H, I, rfl, q⟩

/-! ### the call of a builtin's method: o.m(..) -/
/-- the value is of that builtin type -/
def tyV (K : PySem.W.Frag) (T : String) (x : V) (H : Hp) : Prop := match x with
  | .str _ => T = "str"
  | .int _ => T = "int"
  | .ref p => (T = "list" ∧ ∃ xs, SqL K H p xs) ∨ (T = "tuple" ∧ ∃ o, K.lookup p = some o ∧ o.cls = .type "tuple" ∧ o.dict = none) ∨
      (T = "dict" ∧ ((∃ kvs, H p = some (.dK kvs)) ∨ ∃ kvs, H p = some (.dT kvs))) ∨ (T = "set" ∧ ∃ S n, H p = some (.set S n))
  | _ => False
theorem tyV_is {pins : List (Addr × Obj)} {σ : St} {H : Hp} {s : Shared} {T : String} {x : V} {v : Value} (I : Inv X pins σ H s) (r : RelV x v) (ty : tyV X.K T x H) :
    s.TypeIs v T ∧ ∀ a, v = .ref a → ∃ ob, s.heap.get? a = some ob ∧ ob.dict = none := by
  cases x with
  | str z =>
    obtain ⟨t, rfl⟩ := r
    cases (show T = "str" from ty)
    exact ⟨typeIs_str s z t, fun _ e => nomatch e⟩
  | int i =>
    obtain ⟨t, rfl⟩ := r
    cases (show T = "int" from ty)
    exact ⟨typeIs_int s i t, fun _ e => nomatch e⟩
  | ref p =>
    cases r
    rcases ty with ⟨rfl, xs, hq⟩ | ⟨rfl, o, hk, hc, hd⟩ | ⟨rfl, hk⟩ | ⟨rfl, S, n, hk⟩
    · obtain ⟨its, _, pl, _⟩ := I.list hq
      refine ⟨pl.isList.typeIs, fun a e => ?_⟩
      cases e
      obtain ⟨o, n, e, c, hd, _⟩ := pl
      exact ⟨o, e, hd⟩
    · refine ⟨⟨o, I.kIn p o hk, hc⟩, fun a e => ?_⟩
      cases e
      exact ⟨o, I.kIn _ o hk, hd⟩
    · have z : ∃ o, s.heap.get? p = some o ∧ o.ExactDict := by
        rcases hk with ⟨kvs, hk⟩ | ⟨kvs, hk⟩
        · obtain ⟨_, _, _, _, o, _, _, e, ex, _⟩ := I.hok p _ hk
          exact ⟨o, e, ex⟩
        · obtain ⟨_, _, _, _, o, _, _, e, ex, _⟩ := I.hok p _ hk
          exact ⟨o, e, ex⟩
      obtain ⟨o, e, ex⟩ := z
      refine ⟨⟨o, e, ex.1⟩, fun a e2 => ?_⟩
      cases e2
      exact ⟨o, e, ex.2.1⟩
    · obtain ⟨o, _, _, _, e, ex, _⟩ := I.hok p _ hk
      refine ⟨⟨o, e, ex.1⟩, fun a e2 => ?_⟩
      cases e2
      exact ⟨o, e, ex.2.1⟩
  | _ => exact False.elim ty
def tBM0 (K : PySem.W.Frag) (T : String) (r : V → List V → Hp → VK → Prop) (to : TE) : TE := fun σ H Q => to σ H fun x H1 => tyV K T x H1 ∧ r x [] H1 Q
def tBM (K : PySem.W.Frag) (T : String) (r : V → List V → Hp → VK → Prop) (to : TE) (t : TA) : TE := fun σ H Q => to σ H fun x H1 => tyV K T x H1 ∧ t σ H1 fun xs H2 => r x xs H2 Q
variable {o e : Expr} {es : List Expr} {to : TE} {t : TA} {name : Str} {apos cpos : Pos} {T id : String} {r : V → List V → Hp → VK → Prop}
theorem pe_bm0 (pa : PlainAttrs T) (slot : Slot T name id) (hty : typeOf (.builtin id) = pure (.type "method_descriptor")) (hm : MtR X id r) (ho : PE X o to)
    (hbase : attributeBase o name X.env (eval o X.env) = eval o X.env := by rfl) (hline : (apos.endLine == cpos.line) = true := by rfl) : PE X (.Call (.Attribute o name apos) [] [] cpos) (tBM0 X.K T r to) := by
  intro pins s σ H Q I h
  refine wpAny_Call_method0_late hbase hline (thn (ho pins s σ H _ I h) fun v s1 ⟨x, H1, I1, r1, ty, q1⟩ => ?_)
  obtain ⟨h1, h2⟩ := tyV_is I1 r1 ty
  exact ⟨T, id, pa, slot, hty, h1, h2, Calls.callWith_builtin rfl (PySem.evalArgs_none (hm pins s1 σ H1 x [] v [] Q I1 r1 .nil q1))⟩
theorem pe_bm (pa : PlainAttrs T) (slot : Slot T name id) (hty : typeOf (.builtin id) = pure (.type "method_descriptor")) (hm : MtR X id r) (ho : PE X o to) (ha : PA X (e :: es) t)
    (hbase : attributeBase o name X.env (eval o X.env) = eval o X.env := by rfl)
    (hfew : ((backTo cpos (starEach (e :: es) X.env)).all (fun x => !x.1) && (backToKw cpos (keywordEach [] X.env)).all (fun x => x.1.isSome)
      && decide ((e :: es).length + ([] : List Keyword).length + (if ([] : List Keyword).isEmpty then 0 else 1) < 30)) = true := by rfl)
    (hline : (apos.endLine == cpos.line) = true := by rfl) (hs : starEach (e :: es) X.env = (false, eval e X.env) :: starEach es X.env := by rfl) (hplain : (backTo cpos (starEach es X.env)).any (·.1) = false := by rfl) :
    PE X (.Call (.Attribute o name apos) (e :: es) [] cpos) (tBM X.K T r to t) := by
  intro pins s σ H Q I h
  refine wpAny_Call_method_late hbase hfew hline rfl (thn (ho pins s σ H _ I h) fun v s1 ⟨x, H1, I1, r1, ty, q1⟩ => ?_)
  obtain ⟨h1, h2⟩ := tyV_is I1 r1 ty
  refine ⟨T, id, pa, slot, hty, h1, h2, ?_⟩
  have hA := ha cpos pins s1 σ H1 _ I1 q1
  rw [hs] at hA ⊢
  refine Calls.callWith_builtin (by show (false || (backTo cpos (starEach es X.env)).any (·.1)) = false; rw [hplain] <;> rfl) (Calls.evalArgs_plain ?_)
  exact thn hA fun us s2 ⟨vs, H2, I2, r2, q2⟩ => hm pins s2 σ H2 x vs v us Q I2 r1 r2 q2
/- xs.append(e), list.index on a module's tuple .. are MtR facts of 06m -/
end
end L2

namespace L2
open PySem PySem.Spec PyProof.Rows

def MtM (X : Cx) (id : String) (r : V → List V → Hp → VK → Prop) : Prop :=
  ∀ (pins : List (Addr × Obj)) (s : Shared) (σ : St) (H : Hp) (x : V) (xs : List V) (v : Value) (us : List Value) (Q : VK), Inv X pins σ H s → RelV x v → Vals xs us → r x xs H Q →
    wpAny (model X.prog X.w) X.A (call (.builtin id) (v :: us)) (EP X pins σ Q) X.xe s

/-! ### lists of values -/
theorem Vals.one : ∀ {x : V} {us : List Value}, Vals [x] us → ∃ u, us = [u] ∧ RelV x u
  | _, _, .cons r .nil => ⟨_, rfl, r⟩
theorem Vals.zero : ∀ {us : List Value}, Vals [] us → us = []
  | _, .nil => rfl
theorem Vals.dropLast {xs : List V} {us : List Value} (h : Vals xs us) : Vals xs.dropLast us.dropLast := by
  induction h with
  | nil => exact .nil
  | cons r t ih =>
    cases t with
    | nil => exact .nil
    | cons q t' => exact .cons r ih
theorem Vals.reverse {xs : List V} {us : List Value} (h : Vals xs us) : Vals xs.reverse us.reverse := by
  induction h with
  | nil => exact .nil
  | cons r t ih => rw [List.reverse_cons, List.reverse_cons]; exact Vals.append ih (.cons r .nil)
theorem Vals.rep {xs : List V} {us : List Value} (h : Vals xs us) : ∀ k : Nat, Vals (List.replicate k xs).flatten (List.replicate k us).flatten
  | 0 => .nil
  | k + 1 => by
    rw [List.replicate_succ, List.replicate_succ, List.flatten_cons, List.flatten_cons]
    exact Vals.append h (Vals.rep h k)
theorem erase_last {α : Type} (l : List α) : l.eraseIdx (l.length - 1) = l.dropLast := by
  induction l with
  | nil => rfl
  | cons a r ih =>
    cases r with
    | nil => rfl
    | cons b r =>
      have e : (a :: b :: r).length - 1 = ((b :: r).length - 1) + 1 := by
        have h1 : (a :: b :: r).length = r.length + 2 := rfl
        have h2 : (b :: r).length = r.length + 1 := rfl
        omega
      rw [e, List.eraseIdx_cons_succ, ih]
      all_goals rfl
theorem foldl_rep (its : List Value) : ∀ (k : Nat) (acc : List Value),
    List.foldl (fun x1 x2 => x1 ++ x2) acc.toArray (List.replicate k its.toArray) = (acc ++ (List.replicate k its).flatten).toArray
  | 0, acc => by simp
  | k + 1, acc => by
    have e : acc.toArray ++ its.toArray = (acc ++ its).toArray := by simp
    have e2 : (acc ++ its) ++ (List.replicate k its).flatten = acc ++ (List.replicate (k + 1) its).flatten := by
      rw [List.replicate_succ, List.flatten_cons, List.append_assoc]
    rw [← e2, ← foldl_rep its k (acc ++ its), ← e, List.replicate_succ, List.foldl_cons]

section
variable {X : Cx} {pins : List (Addr × Obj)} {σ : St} {H : Hp} {s : Shared} {l b : Addr} {xs ys zs : List V}

/-! ### the two steps: a tracked list is rewritten, a new list is laid -/
theorem Inv.lset {its its' : List Value} {n : Nat} {f : Array Value → Array Value} {t' : Nat} (I : Inv X pins σ H s) (hH : H l = some (.lst xs))
    (e : s.heap.get? l = some { cls := .type "list", data := .seq its.toArray n }) (hf : f its.toArray = its'.toArray) (hv : Vals ys its') (hz : ys.length ≤ sizeLine) :
    Inv X pins σ (upd H l (.lst ys)) { s with heap := s.heap.update l (Obj.mapSeq f), toks := t' } := by
  have q := PySem.IsL.update e f
  rw [hf] at q
  refine I.write (x := l) (e := l) (by rw [hH]; exact trivial) (.inl rfl) (fun b' u hb hu => (Heap.get?_update_other s.heap (Obj.mapSeq f) (Ne.symm hb)).trans hu) ⟨_, q⟩ ?_
  exact ⟨hz, its', _, hv, q⟩
theorem Inv.lnew {its : List Value} {t' : Nat} (I : Inv X pins σ H s) (hv : Vals ys its) (hz : ys.length ≤ sizeLine) :
    Inv X pins σ (upd H s.heap.objs.size (.lst ys)) { s with heap := s.heap.push { cls := .type "list", data := .seq its.toArray }, toks := t' } :=
  I.laid (fun _ _ q => Heap.get?_push_of_some _ q) (Nat.le_refl _) ⟨hz, its, 0, hv, Heap.get?_push_size _ rfl⟩
theorem Inv.fresh (I : Inv X pins σ H s) : H s.heap.objs.size = none := I.hok.fresh (Nat.le_refl _)
theorem Inv.lstM (I : Inv X pins σ H s) (hH : H l = some (.lst xs)) : xs.length ≤ sizeLine ∧ ∃ (its : List Value) (n : Nat), Vals xs its ∧ xs.length = its.length ∧ s.heap.get? l = some { cls := .type "list", data := .seq its.toArray n } := by
  obtain ⟨z, its, n, r, e⟩ := I.hok l _ hH
  exact ⟨z, its, n, r, r.length, e⟩

theorem notLongL {n : Nat} (h : n ≤ sizeLine) : Builtin.List.listTooLong n = false := by
  unfold Builtin.List.listTooLong
  exact decide_eq_false (by omega)
end

section
variable {X : Cx}

/-! ### methods -/
def rAppend : V → List V → Hp → VK → Prop := fun x vs H Q => ∃ l xs y, x = .ref l ∧ vs = [y] ∧ H l = some (.lst xs) ∧ xs.length < sizeLine ∧ Q .non (upd H l (.lst (xs ++ [y])))
theorem mt_append : MtM X "list.append" rAppend := by
  intro pins s σ H x vs v us Q I rx rv h
  obtain ⟨l, xs, y, rfl, rfl, hH, hz, q⟩ := h
  cases rx
  obtain ⟨u, rfl, ru⟩ := rv.one
  obtain ⟨z, its, n, r, hl, e⟩ := I.lstM hH
  refine call_meets F.slot_list_append ⟨_, e, rfl⟩ F.entry_list_append (F.args_list_append_2 _ _) (PySem.list_append l its.toArray n u (by rw [List.size_toArray]; omega)) ⟨e, ?_⟩
  refine ⟨.non, _, I.lset (its' := its ++ [u]) hH e (by simp) (r.append (.cons ru .nil)) ?_, rfl, q⟩
  rw [List.length_append, List.length_singleton]
  omega

def rPop : V → List V → Hp → VK → Prop := fun x vs H Q => ∃ l xs y, x = .ref l ∧ vs = [] ∧ H l = some (.lst xs) ∧ xs[xs.length - 1]? = some y ∧ Q y (upd H l (.lst xs.dropLast))
theorem mt_pop : MtM X "list.pop" rPop := by
  intro pins s σ H x vs v us Q I rx rv h
  obtain ⟨l, xs, y, rfl, rfl, hH, hy, q⟩ := h
  cases rx
  have hus := rv.zero
  subst hus
  obtain ⟨z, its, n, r, hl, e⟩ := I.lstM hH
  obtain ⟨u, hu, ru⟩ := r.get hy
  have hy' : its.toArray[its.toArray.size - 1]? = some u := by
    show its.toArray[its.length - 1]? = some u
    rw [← Array.getElem?_toList, ← hl]
    exact hu
  refine call_meets F.slot_list_pop ⟨_, e, rfl⟩ F.entry_list_pop (F.args_list_pop_1 _) (MeetsSeq.list_pop_last l its.toArray n u hy' (by rw [List.size_toArray]; omega)) ⟨e, ?_⟩
  refine ⟨y, _, I.lset (its' := its.dropLast) hH e ?_ r.dropLast ?_, ru, q⟩
  · show its.toArray.eraseIdxIfInBounds (its.toArray.size - 1) = its.dropLast.toArray
    rw [List.size_toArray, List.eraseIdxIfInBounds_toArray, erase_last]
  · rw [List.length_dropLast]
    omega

/-! ### list + list, list += list, list * int -/
def rCat : R2 := fun x y H Q => ∃ l b xs zs, x = .ref l ∧ y = .ref b ∧ H l = some (.lst xs) ∧ H b = some (.lst zs) ∧ xs.length + zs.length ≤ sizeLine ∧ ∀ p, H p = none → Q (.ref p) (upd H p (.lst (xs ++ zs)))
theorem op_cat : OpR X (binaryOp .Add) rCat := by
  intro pins s σ H x y v u Q I rx ry h
  obtain ⟨l, b, xs, zs, rfl, rfl, hH, hB, hz, q⟩ := h
  cases rx
  cases ry
  obtain ⟨z, its, n, r, hl, e⟩ := I.lstM hH
  obtain ⟨z2, its2, n2, r2, hl2, e2⟩ := I.lstM hB
  refine PySem.P.add_list e e2 ?_ (by rw [List.size_toArray, List.size_toArray]; omega)
  have ea : its.toArray ++ its2.toArray = (its ++ its2).toArray := by simp
  rw [ea]
  exact ⟨.ref _, _, I.lnew (t' := s.toks) (r.append r2) (by rw [List.length_append]; omega), rfl, q _ I.fresh⟩
/-- a list times an int (a negative one is nothing) -/
def rRep : R2 := fun x y H Q => ∃ l k xs, x = .ref l ∧ y = .int k ∧ H l = some (.lst xs) ∧ -(2 ^ 63) ≤ k ∧ k < 2 ^ 63 ∧ xs.length * k.toNat ≤ sizeLine ∧
  ∀ p, H p = none → Q (.ref p) (upd H p (.lst (List.replicate k.toNat xs).flatten))
theorem len_rep {α : Type} (xs : List α) (k : Nat) : (List.replicate k xs).flatten.length = k * xs.length := by
  induction k with
  | zero => simp
  | succ k ih => rw [List.replicate_succ, List.flatten_cons, List.length_append, ih, Nat.succ_mul, Nat.add_comm]
theorem op_rep : OpR X (binaryOp .Mult) rRep := by
  intro pins s σ H x y v u Q I rx ry h
  obtain ⟨l, k, xs, rfl, rfl, hH, h1, h2, hz, q⟩ := h
  cases rx
  obtain ⟨t, rfl⟩ := ry
  obtain ⟨z, its, n, r, hl, e⟩ := I.lstM hH
  have hlen : its.toArray.size * k.toNat ≤ sizeLine := by rw [List.size_toArray, ← hl]; exact hz
  have hcap : ¬ its.toArray.size * k.toNat > (2 ^ 63 - 1) / 8 := by
    have : (sizeLine : Nat) ≤ (2 ^ 63 - 1) / 8 := by decide
    omega
  have hfit : ¬ (!Builtin.List.listFitsIndex k) = true := by
    rw [fitsIndex_both h1 h2]
    exact Bool.false_ne_true
  have hlong : ¬ Builtin.List.listTooLong (its.toArray.size * k.toNat) = true := by
    rw [notLongL hlen]
    exact Bool.false_ne_true
  have hnew : List.foldl (fun x1 x2 => x1 ++ x2) #[] (List.replicate (if its.toArray.isEmpty = true then 0 else k.toNat) its.toArray) = (List.replicate k.toNat its).flatten.toArray := by
    have f0 : ∀ m : Nat, List.foldl (fun x1 x2 => x1 ++ x2) #[] (List.replicate m its.toArray) = (List.replicate m its).flatten.toArray := fun m => by
      have := foldl_rep its m []
      rw [List.nil_append] at this
      exact this
    rw [f0]
    cases its with
    | nil => simp
    | cons a r' => rw [if_neg (by simp)]
  refine wpAny_binaryOp_repeat_ref (T := "list") (U := "int") (by decide) ⟨_, e, rfl⟩ (fun s' => typeIs_int s' k t) noFill_list_mul F.fills_int_mul F.slot_int_rmul repeat_list F.slot_int_index.lookup
    (call_meets F.slot_int_rmul (typeIs_int s k t) F.entry_int_rmul (F.args_int_rmul_2 _ _) (int___rmul___int_list k t l its.toArray n)
      ⟨e, rfl, ⟨_, e, rfl⟩, call_meets F.slot_list_mul ⟨_, e, rfl⟩ F.entry_list_mul (F.args_list_mul_2 _ _) (AutoListH.list___mul___list_int_3 l its.toArray n k t hfit hcap hlong) ⟨e, ?_⟩⟩)
  rw [hnew]
  exact ⟨.ref _, _, I.lnew (t' := s.toks) (r.rep k.toNat) (by rw [len_rep, Nat.mul_comm]; exact hz), rfl, q _ I.fresh⟩

/-! ### del xs[i] -/
end

/-! ### xs[a:b] = ys -/
section
variable {prog : Program} {w : World} {A : Around} {E : Value → Shared → Prop} {s : Shared}
end

section
variable {X : Cx}
end
end L2

namespace Att
open PySem PySem.W PySem.Calls PyProof.Rows

/-! ### the script -/
theorem ints_of_wellAll {P : Params} {h : Heap} : ∀ (ns : List Int) (vs : List Value), WellAll P h vs (ns.map WData.int) → IntsAre vs ns := by
  intro ns
  induction ns with
  | nil =>
    intro vs w
    rw [List.map_nil] at w
    cases w
    exact .nil
  | cons n ns ih =>
    intro vs w
    rw [List.map_cons] at w
    cases w with
    | cons a b =>
      cases a
      exact .cons _ _ (ih _ b)

theorem script_of {l : OpenLaw} {n : Nat} (hn : l.most = some n) {P : Params} {h : Heap} {args : List WData} {vals : List Value}
    (hpre : l.row.toRowW.claim.pre args = true) (hwl : WellAll P h vals args) :
    ∃ a vs ns, vals = [Value.ref a] ∧ args = [WData.list (ns.map WData.int)] ∧ h.get? a = some { cls := .type "list", data := .seq vs.toArray } ∧ IntsAre vs ns ∧ ns.length ≤ n := by
  have hsh : WShape.hasAll [] args [.list .int] = true := (pre_splitW hpre).1
  have hc : l.pre.holds [] { args := args } = true := (pre_splitW hpre).2
  obtain ⟨d, r, rfl, h1, h2⟩ := hasAllW_cons hsh
  obtain rfl := hasAllW_nil h2
  obtain ⟨xs, rfl, h3⟩ := hasW_list h1
  obtain ⟨ns, rfl⟩ := items_int h3
  have hlen : ns.length ≤ n := by
    unfold OpenLaw.pre at hc
    have h4 : (WTm.not (.lt (.lit (.int (n : Int))) (.len (.arg 0)))).holds [] { args := [.list (ns.map .int)] } = true := by
      have h4 := (holds_andW hc).1
      rw [hn] at h4
      exact h4
    have h5 := condW_of h4 (w_not (w_lt w_lit (w_len_list (w_arg rfl))))
    rw [List.length_map] at h5
    refine Nat.le_of_not_lt fun q => ?_
    have q' : (n : Int) < ((ns.length : Nat) : Int) := by omega
    first
      | (rw [decide_eq_true q'] at h5; exact absurd h5 (by decide))
      | (simp at h5; omega)
  cases hwl with
  | cons w1 w2 =>
    cases w2
    cases w1 with
    | list ho hall => exact ⟨_, _, ns, rfl, rfl, ho, ints_of_wellAll ns _ hall, hlen⟩

theorem post_true (l : OpenLaw) (args : List WData) : l.row.toRowW.claim.post args (.bool true) args = true :=
  postW_of (r := l.row.toRowW) (X := (true == true))
    (show WShape.has [] (.bool true) .bool = true by first | rfl | decide | simp [WShape.has, WShape.arms, WShape.armsAll])
    (show (WTm.eq .res (.lit (.bool true))).value [] { args := args, res := some (.bool true), after := args } = some (.bool (true == true)) from w_eq_bool (w_res rfl) w_lit) rfl

/-! ### the attachment: holds_open's last premise (the goal 'hc' behind k_head) from a wpAny of the law's body -/
/-- the same from a codeAny of the CALL (for a layer whose function contracts speak of calls) -/
theorem attach_call {l : OpenLaw} {n : Nat} {q : Program} {loose : List Str} {XP : (Str → Option Value) → Heap → Prop} {YP : World → Heap → Prop} {d : DefRec}
    (hn : l.most = some n) (hdf : d.params.defaults = [])
    (call : ∀ (w : World) (s₀ s₁ : Shared) (mg mb : Str → Option Value) (fa : Addr) (o : Obj) (pm cd doc : Value) (a : Addr) (vs : List Value) (ns : List Int),
      Ground q loose [] XP w s₀ mg mb s₁.heap → YP w s₁.heap →
      s₁.heap.get? fa = some o → o.data = .func (docDef d.name d.params d.body d.scope pm cd doc) → s₁.heap.CodeRec cd d.name → mg d.name = some (.ref fa) →
      s₁.heap.get? a = some { cls := .type "list", data := .seq vs.toArray } → IntsAre vs ns → ns.length ≤ n → s₁.gens = #[] →
      codeAny (model l.prog w) callerA (.call (.ref fa) ⟨[.ref a], []⟩) (fun r s' => r = .ok (.ret (.bool true)) ∧ OldK s₁.heap s'.heap ∧ s'.os = s₁.os ∧ AllBare s'.gens) s₁) :
    WalkO q loose XP YP l.row.toRowW d [] (fun f vs => PySem.call f vs) := by
  intro w s₀ s₁ mg mb G Y fa o pm cd doc dV kV ho hd hcd hD hmg hg args vals as hpre hlay hrd hwl hlo
  obtain rfl : dV = .none := Dflts.none hD hdf
  obtain rfl : kV = .none := Dflts.noKw hD
  obtain ⟨a, vs, ns, rfl, rfl, hobj, hints, hlen⟩ := script_of hn hpre hwl
  refine enter_call (codeAny_mono (call w s₀ s₁ mg mb fa o pm cd doc a vs ns G Y ho (fd_plain hd) hcd hmg hobj hints hlen hg) fun r s' hq => ?_)
  obtain ⟨rfl, h2, h3, h4⟩ := hq
  exact ⟨.inl ⟨.bool true, .bool true, [], rfl, fun _ => rfl, .bool true, post_true l _, fun _ => ⟨List.Pairwise.nil, fun _ hm => (nomatch hm)⟩⟩, h2, h3, h4⟩

/-! ### rules over ANY heap (no ledger) from facts about the written part K: the library's own take a ledger (News) for what they write -/
section
variable {prog : Program} {w : World} {A : Around} {E : Value → Shared → Prop} {s : Shared} {K : Frag}

/-! the whole heap as the ledger: makes every rule that writes through a ledger a rule over any heap -/
def ledger (h : Heap) (L d : Addr) : List (Addr × Obj) := (List.range h.objs.size).filterMap fun a => if a = L ∨ a = d then none else (h.get? a).map fun o => (a, o)
end
end Att

namespace L2
open PySem PySem.Spec PyProof.Rows

theorem vals_ints : ∀ {vs : List Value} {ns : List Int}, IntsAre vs ns → Vals (ns.map V.int) vs
  | _, _, .nil => .nil
  | _, _, .cons n t h => .cons ⟨t, rfl⟩ (vals_ints h)

/-- nothing is tracked but the script, known to the object (or it is an object of the module) -/
def Only (H : Hp) : Prop := ∀ b, H b = none ∨ ∃ o xs, H b = some (.frz o (.lst xs))

/-- THE HEAD: the law's promise, at the heap behind the top. F, the promise of the law's def, may use that base is part of the heap (so K.In base, base.Ns mainGlobals mg stand in Mod) -/
theorem law_call {P : Program} {w : World} {K : PySem.W.Frag} {mg mb : Str → Option Value} {CX : CXT} {k : Nat} {fa a : Addr} {fd : FuncData} {x : Str} {sp : Sp} {s₁ : Shared} {vs : List Value} {ns : List Int}
    (KX : K.In s₁.heap) (hns : s₁.heap.Ns mainGlobals mg) (hb : s₁.heap.Ns builtinsNs mb) (hbb : ∀ x : Str, x ≠ "__name__" → mb x = bootBuiltins x) (hlim : s₁.heap.NoLimit) (hg : s₁.gens = #[])
    (ha : s₁.heap.get? a = some { cls := .type "list", data := .seq vs.toArray }) (hi : IntsAre vs ns) (hl : ns.length ≤ sizeLine) (hr : Room k callerA)
    (F : ∀ base : Heap, K.In base → base.Ns mainGlobals mg → FnOk P w K mg base CX k fa fd [x] sp) (hbind : ∀ (s : Shared) (u : Value), BindsTo s fd ⟨[u], []⟩ [(x, u)])
    (hsp : ∀ H : Hp, Only H → SqL K H a (ns.map V.int) → sp [.ref a] H (fun v _ => v = .bl true) fun _ _ _ => False)
    (hCX : ∀ H e s', CX [] H s₁ (fun _ _ _ => False) e s' → False) :
    codeAny (model P w) callerA (.call (.ref fa) ⟨[.ref a], []⟩) (fun r s' => r = .ok (.ret (.bool true)) ∧ OldK s₁.heap s'.heap ∧ s'.os = s₁.os ∧ AllBare s'.gens) s₁ := by
  have rv := vals_ints hi
  have lenV := hi.length
  -- from an abstract heap in which nothing but the script may be tracked
  have core : ∀ H : Hp, Only H → SqL K H a (ns.map V.int) → HOk P w H s₁.heap → (∀ b, H b ≠ none → b = a) → (H a ≠ none → K.lookup a = none) →
      codeAny (model P w) callerA (.call (.ref fa) ⟨[.ref a], []⟩) (fun r s' => r = .ok (.ret (.bool true)) ∧ OldK s₁.heap s'.heap ∧ s'.os = s₁.os ∧ AllBare s'.gens) s₁ := by
    intro H hO hS hok hA hK
    have base_of : ∀ {b : Addr} {o : Obj}, s₁.heap.get? b = some o → H b = none → (hidT s₁.heap H).get? b = some o := fun e n => hidT_get e n
    have noA : ∀ {b : Addr} {o : Obj} {es : Array DictEntry} {ep : Nat}, s₁.heap.get? b = some o → o.data = .dict es ep → H b = none := fun {b o es ep} e d => by
      cases q : H b with
      | none => rfl
      | some u =>
        have e' : b = a := hA b (by rw [q]; simp)
        subst e'
        rw [ha] at e; cases e
        have d' : Data.seq vs.toArray _ = Data.dict es ep := d
        cases d'
    have nsK : ∀ {b : Addr} {m : Str → Option Value}, s₁.heap.Ns b m → (hidT s₁.heap H).Ns b m := fun {b m} ⟨o, es, ep, e, d, r⟩ => ⟨o, es, ep, base_of e (noA e d), d, r⟩
    have hKb : K.In (hidT s₁.heap H) := fun b o e => base_of (KX b o e) (by
      cases q : H b with
      | none => rfl
      | some u =>
        have e' : b = a := hA b (by rw [q]; simp)
        subst e'
        rw [hK (by rw [q]; simp)] at e; cases e)
    have hM : Mod K mg (hidT s₁.heap H) := ⟨hKb, nsK hns, ⟨mb, nsK hb, hbb⟩, let ⟨mc, h1, h2⟩ := hlim; ⟨mc, nsK h1, h2⟩⟩
    have e0 : Env0 P w K mg (hidT s₁.heap H) callerA [] s₁ H := ⟨rfl, hM, fun b o e => of_hidT e, Nat.le_of_eq (hidT_size _ _), trivial, fun b hb => absurd (show b ∈ ([] : List Addr) from hb) (by simp), hok, .of_eq hg⟩
    refine codeAny_mono ((F _ hKb (nsK hns)).run callerA [] s₁ H ⟨[.ref a], []⟩ [.ref a] [.ref a] _ _ hr e0 (hbind s₁ (.ref a)) (.cons rfl .nil) (hsp H hO hS)) fun r s' h => ?_
    cases r with
    | error e => exact (hCX H e s' h).elim
    | ok fl =>
      cases fl with
      | next => exact False.elim h
      | brk => exact False.elim h
      | cont => exact False.elim h
      | ret u =>
        obtain ⟨v, H', os, bare, un, hok', r', q⟩ := h
        have q' : v = .bl true := q
        subst q'
        obtain rfl : u = Value.bool true := r'
        refine ⟨rfl, OldK.of_keep fun b o e => ?_, os, bare⟩
        cases q : H b with
        | none => exact un.keep b o e q (by intro z; exact absurd (show b ∈ ([] : List Addr) from z) (by simp)) (by simp)
        | some u =>
          rcases hO b with z | ⟨ob, xs, z⟩
          · rw [q] at z; cases z
          · have z2 := un.frzs b ob _ z
            obtain ⟨e1, _⟩ := hok b _ z
            obtain ⟨e2, _⟩ := hok' b _ z2
            rw [e] at e1; cases e1
            exact e2
  cases hk : K.lookup a with
  | some o =>
    -- the script is one of the module's own objects
    have e := KX a o hk
    rw [ha] at e
    cases e
    refine core (fun _ => none) (fun _ => .inl rfl) (.inr ⟨_, vs.toArray, _, hk, rfl, rfl, rfl, by rw [List.size_toArray, lenV]; exact hl, by simpa using rv⟩) (fun b u z => by have z' : (none : Option HO) = some u := z; cases z') (fun b z => absurd rfl z) fun z => absurd rfl z
  | none =>
    refine core (fun b => if b = a then some (.frz { cls := .type "list", data := .seq vs.toArray } (.lst (ns.map V.int))) else none) (fun b => ?_) (.inl (.inr ⟨{ cls := .type "list", data := .seq vs.toArray }, if_pos rfl⟩)) (fun b u z => ?_) (fun b z => ?_) fun _ => hk
    · by_cases hb : b = a
      · exact .inr ⟨_, _, if_pos hb⟩
      · exact .inl (if_neg hb)
    · by_cases hb : b = a
      · have z' := (if_pos hb).symm.trans z
        cases z'
        subst hb
        exact ⟨ha, by rw [List.length_map]; exact hl, vs, _, rv, ha⟩
      · have z' := (if_neg hb).symm.trans z
        cases z'
    · by_cases hb : b = a
      · exact hb
      · exact absurd (if_neg hb) z
end L2

namespace L2
open PySem PySem.Spec PyProof.Rows

/-- the goal that k_head leaves (case hc), from the law's promise. F gives the function object fd (K's own) once, then the promise over every base -/
theorem walk_of {l : PySem.W.OpenLaw} {n k : Nat} {q : Program} {loose : List Str} {XP : (Str → Option Value) → Heap → Prop} {YP : World → Heap → Prop} {d : DefRec} {K : Params → PySem.W.Frag} {CX : World → CXT} {sp : World → Sp} {x : Str}
    (hn : l.most = some n) (hn2 : n ≤ sizeLine) (hdf : d.params.defaults = []) (hr : Room k callerA)
    (hY : ∀ (w : World) (h : Heap), YP w h → (K w.params).In h)
    (F : ∀ (w : World) (mg : Str → Option Value) (fa : Addr) (h : Heap), (K w.params).In h → h.Ns mainGlobals mg → mg d.name = some (.ref fa) →
      ∃ fd : FuncData, (∀ (s : Shared) (u : Value), BindsTo s fd ⟨[u], []⟩ [(x, u)]) ∧
        ∀ base : Heap, (K w.params).In base → base.Ns mainGlobals mg → FnOk l.prog w (K w.params) mg base (CX w) k fa fd [x] (sp w))
    (hsp : ∀ (w : World) (H : Hp) (a : Addr) (ns : List Int), ns.length ≤ n → Only H → SqL (K w.params) H a (ns.map V.int) → sp w [.ref a] H (fun v _ => v = .bl true) fun _ _ _ => False)
    (hCX : ∀ (w : World) (H : Hp) (s : Shared) (e : Value) (s' : Shared), CX w [] H s (fun _ _ _ => False) e s' → False) :
    PySem.W.WalkO q loose XP YP l.row.toRowW d [] (fun f vs => PySem.call f vs) := by
  refine Att.attach_call hn hdf fun w s₀ s₁ mg mb fa o pm cd doc a vs ns G Y ho hd hcd hmg hobj hints hlen hg => ?_
  have KX := hY w _ Y
  obtain ⟨fd, hb, hF⟩ := F w mg fa _ KX G.T.g hmg
  exact law_call KX G.T.g G.T.b G.T.builtins G.T.nolimit hg hobj hints (Nat.le_trans hlen hn2) hr hF hb (fun H hO hS => hsp w H a ns hlen hO hS) fun H e s' => hCX w H s₁ e s'
end L2

/- THE LAST THEOREM (shape; LID, My.* are yours):
   My.Adr: a structure of the addresses that your layer names (classes, functions); My.Txt K t: a structure (Prop) of the equations over K;
   My.txt_mk : {K} {implicit addresses ..} (e1 : nsIn K mainGlobals "law" = some (some (.ref f))) (e2 : K.lookup f = some ⟨oc, od, .func (fnOf "law" "law" params body scope dV kV doc pm an cdv ct), sl⟩) (e3 : codeIn K cdv "law" = true) .. : ∃ t, My.Txt K t

set_option maxRecDepth 100000 in
set_option maxHeartbeats 0 in
theorem PySem.Challenge.cw_LID_holds : PySem.Challenge.rw_LID.Holds := by
  w_on; o_law; k_head; (case hw => w_witness2)
  k_fill
  refine L2.walk_of (l := PySem.Challenge.rw_LID) (n := 63) (k := 40) (x := "script") (CX := fun w => ..) (sp := fun _ => My.sp_law) rfl (by decide) rfl ⟨rfl, by decide, by decide⟩ (fun w h Y => PySem.W.kIn_of Y) ?F ?S ?C
  case F =>
    intro w mg fa h KX G hmg
    have T : ∃ t, My.Txt (L2.KOf KX) t := by
      dsimp only [L2.KOf]                          -- K must stand as «<heap const> w.params» for k_is
      refine' My.txt_mk ?e1 ?e2 ?e3 ..
      (case e1 => PySem.W.k_is)                    -- in the order: a name -> its address -> its object -> its parts
      (case e2 => PySem.W.k_is)
      ..
    obtain ⟨t, T⟩ := T
    have e0 := hmg.symm.trans (PySem.W.mg_of KX G T.law)
    cases e0                                       -- fa is the law's own address
    exact ⟨_, fun s u => .of_eq rfl, fun base kb nb => My.law_fn T kb nb⟩     -- if «.of_eq rfl» comes too early: refine' ⟨_, ?b, fun base kb nb => My.law_fn T kb nb⟩; exact fun s u => .of_eq rfl
  case S => exact fun w H a ns hl hO hS => ..
  case C => exact ..
(the tactic k_is has no namespace: write k_is) -/

/-! SHORT WORDS over the layer: a def of the text, its body, what a loop and a test want. -/
namespace L2
open PySem PySem.Spec PyProof.Rows

/-! ### the text by places -/
def defArgs (s : Stmt) : Arguments := match s with
  | .FunctionDef _ a _ _ _ _ _ _ _ _ => a
  | _ => { posonlyargs := [], args := [], vararg := none, kwonlyargs := [], kw_defaults := [], kwarg := none, defaults := [] }
def defBody (s : Stmt) : List Stmt := match s with
  | .FunctionDef _ _ b _ _ _ _ _ _ _ => b
  | _ => []
def defScope (s : Stmt) : Scope := match s with
  | .FunctionDef _ _ _ _ _ _ sc _ _ _ => sc
  | _ => { kind := .function, names := [], isGenerator := false, isCoroutine := false }

/-! ### no exception leaves a def -/
abbrev CX0 : CXT := fun _ _ _ _ _ _ => False
abbrev E0 : XK := fun _ _ _ => False
theorem pass0 {X : Cx} : Passes CX0 X E0 := fun _ _ _ _ _ _ _ h => h.elim

/-! ### a def (or method) of the text as it stands behind the top -/
structure Fun (K : PySem.W.Frag) (x qual : Str) (st : Stmt) (f : Addr) (fd : FuncData) : Prop where
  ex : ∃ (oc : Value) (od : Option Addr) (kV doc pm : Value) (an : Option Addr) (cdv ct : Value) (osl : Array (Option Value)),
    fd = PySem.W.fnOf x qual (defArgs st) (defBody st) (defScope st) .none kV doc pm an cdv ct ∧ K.lookup f = some ⟨oc, od, .func fd, osl⟩ ∧ PySem.W.codeIn K cdv qual = true
  kp : PySem.W.keepIn K (.ref f) = true
section
variable {P : Program} {w : World} {K : PySem.W.Frag} {mg : Str → Option Value} {base : Heap}
/-- THE RULE for a def: its body as a term of rules, and the reading of that term -/
theorem Fun.ok {x qual : Str} {st : Stmt} {f : Addr} {fd : FuncData} {N ps : List Str} {k : Nat} {sp : Sp} (F : Fun K x qual st f fd) (S : FnScope N ps (defScope st)) (len : ∀ vs H Q E, sp vs H Q E → vs.length = ps.length)
    (hbody : ∀ (cdv : Value) (A : Around) (outer : List Env) (s : Shared) (H : Hp) (vs : List V) (Q : VK) (E : XK), Room k (A.deeper (envOfC qual (defScope st) s.heap.objs.size f cdv)) → sp vs H Q E →
      ∃ t, PSs (cxOf CX0 P w K mg base N qual (defScope st) f cdv A outer s H E).nox (defBody st) t ∧ t { nx := fun _ H' => Q .non H', rt := Q } (start N vs) H) : FnOk P w K mg base CX0 (k + 1) f fd ps sp := by
  obtain ⟨oc, od, kV, doc, pm, an, cdv, ct, osl, rfl, lk, hcd⟩ := F.ex
  refine fn_of lk hcd S len fun A outer s H vs Q E hr hsp => ?_
  obtain ⟨t, h, q⟩ := hbody cdv A outer s H vs Q E hr hsp
  exact ⟨t, h.nox, q⟩
/-- how its arguments bind (no defaults): h is «fun _ _ _ _ _ _ us hl => match us, hl with | [_, _], _ => rfl», one _ a parameter -/
theorem Fun.binds {x qual : Str} {st : Stmt} {f : Addr} {fd : FuncData} {ps : List Str} (F : Fun K x qual st f fd)
    (h : ∀ (kV doc pm : Value) (an : Option Addr) (cdv ct : Value) (us : List Value), us.length = ps.length → bindArgs (PySem.W.fnOf x qual (defArgs st) (defBody st) (defScope st) .none kV doc pm an cdv ct) ⟨us, []⟩ = pure (ps.zip us)) : Binds K fd ps [] := by
  obtain ⟨oc, od, kV, doc, pm, an, cdv, ct, osl, rfl, lk, hcd⟩ := F.ex
  exact .all (h kV doc pm an cdv ct)
theorem fun_mk {x qual : Str} {st : Stmt} {f : Addr} {oc : Value} {od an : Option Addr} {osl : Array (Option Value)} {kV doc pm cdv ct : Value} (l : K.lookup f = some ⟨oc, od, .func (PySem.W.fnOf x qual (defArgs st) (defBody st) (defScope st) .none kV doc pm an cdv ct), osl⟩)
    (c : PySem.W.codeIn K cdv qual = true) (k : PySem.W.keepIn K (.ref f) = true) : Fun K x qual st f (PySem.W.fnOf x qual (defArgs st) (defBody st) (defScope st) .none kV doc pm an cdv ct) := ⟨⟨oc, od, kV, doc, pm, an, cdv, ct, osl, rfl, l, c⟩, k⟩
end
theorem hu_of {A : Around} {k : Nat} (hr : Room k A) : A.units + 1 < cLine := Nat.lt_of_le_of_lt (Nat.add_le_add_left (by decide : 1 ≤ 64) _) hr.units
theorem small1000 {n : Nat} (h : n ≤ 1000) : n < sizeLine := Nat.lt_of_le_of_lt h (by decide)

/-! ### expressions in short: the name that stands in the i-th slot -/
section
variable {X : Cx}
theorem pv (i : Nat) {x : Str} {pos : Pos} (hN : X.N[i]? = some x := by rfl) (hv : Vis X.env.scope x := by first | exact Or.inl rfl | exact Or.inr (Or.inl rfl) | exact Or.inr (Or.inr rfl)) (hd : (x == ("__debug__" : Str)) = false := by decide)
    (hcd : (x == ("__classdict__" : Str)) = false := by decide) : PE X (.Name x pos) (tVar i) := pe_var hN hv hd hcd
end

/-! ### tests -/
theorem iteF {A B : Prop} (h : B) : if false = true then A else B := by
  rw [if_neg Bool.false_ne_true]
  exact h
theorem ite2 {c A B : Prop} [Decidable c] (h1 : c → A) (h2 : ¬ c → B) : if c then A else B := by
  by_cases h : c
  · rw [if_pos h]
    exact h1 h
  · rw [if_neg h]
    exact h2 h
theorem iteNS {c A B : Prop} [Decidable c] (hc : c) (h : B) : if (!decide c) = true then A else B := by
  rw [decide_eq_true hc]
  exact iteF h

/-! ### heaps -/
/-- all that was tracked is as it was -/
def Same (H H' : Hp) : Prop := ∀ b o, H b = some o → H' b = some o
theorem Same.refl (H : Hp) : Same H H := fun _ _ h => h
theorem Same.trans {H H1 H2 : Hp} (a : Same H H1) (b : Same H1 H2) : Same H H2 := fun c o h => b c o (a c o h)
theorem Same.free {H H' : Hp} (e : Same H H') {l : Addr} (h : H' l = Option.none) : H l = Option.none := by
  cases q : H l with
  | none => rfl
  | some o =>
    rw [e l o q] at h
    cases h
theorem Same.seq {K : PySem.W.Frag} {H H' : Hp} {a : Addr} {xs : List V} (e : Same H H') (h : SqL K H a xs) : SqL K H' a xs := by
  rcases h with (h | ⟨o, h⟩) | h
  · exact .inl (.inl (e _ _ h))
  · exact .inl (.inr ⟨o, e _ _ h⟩)
  · exact .inr h

/-! ### a dict's pairs: keys that differ -/
section
variable {κ : Type} [DecidableEq κ]
theorem valV_not {kvs : List (κ × V)} {k : κ} (h : valV kvs k = none) : ¬ k ∈ kvs.map (·.1) := by
  intro m
  obtain ⟨p, hp, e⟩ := List.mem_map.mp m
  have q : (kvs.any fun kv => decide (kv.1 = k)) = true := List.any_eq_true.mpr ⟨p, hp, decide_eq_true e⟩
  rw [valV_any, h] at q
  exact absurd q (by simp)
theorem valV_in {kvs : List (κ × V)} {k : κ} {v : V} (h : valV kvs k = some v) : k ∈ kvs.map (·.1) := by
  have q : (kvs.any fun kv => decide (kv.1 = k)) = true := by
    rw [valV_any, h]
    all_goals rfl
  obtain ⟨p, hp, e⟩ := List.any_eq_true.mp q
  exact List.mem_map.mpr ⟨p, hp, of_decide_eq_true e⟩
theorem nd_snoc : ∀ {l : List κ} {k : κ}, l.Nodup → ¬ k ∈ l → (l ++ [k]).Nodup
  | [], k, _, _ => by simp
  | a :: r, k, h, hk => by
    obtain ⟨h1, h2⟩ := List.nodup_cons.mp h
    show (a :: (r ++ [k])).Nodup
    refine List.nodup_cons.mpr ⟨fun m => ?_, nd_snoc h2 fun m => hk (List.mem_cons.mpr (Or.inr m))⟩
    rcases List.mem_append.mp m with q | q
    · exact h1 q
    · exact hk (List.mem_cons.mpr (Or.inl (List.mem_singleton.mp q).symm))
theorem nd_putK {kvs : List (κ × V)} {k : κ} (v : V) (hn : (kvs.map (·.1)).Nodup) (h : valV kvs k = none) : ((putK kvs k v).map (·.1)).Nodup := by
  rw [putK_new v h, List.map_append]
  exact nd_snoc hn (valV_not h)
end
end L2
set_option maxHeartbeats 4000000
namespace L2
open PySem PySem.Spec PyProof.Rows
/-! ### how arguments bind, by their number -/
theorem len_cons {α : Type} {n : Nat} {us : List α} (h : us.length = n + 1) : ∃ u r, us = u :: r ∧ r.length = n := by
  cases us with
  | nil => cases h
  | cons u r => exact ⟨u, r, rfl, Nat.succ.inj h⟩
section
variable {K : PySem.W.Frag} {x qual : Str} {st : Stmt} {f : Addr} {fd : FuncData} {p1 p2 p3 p4 p5 : Str}
theorem Fun.b1 (F : Fun K x qual st f fd) (h : ∀ (kV doc pm : Value) (an : Option Addr) (cdv ct u1 : Value), bindArgs (PySem.W.fnOf x qual (defArgs st) (defBody st) (defScope st) .none kV doc pm an cdv ct) ⟨[u1], []⟩ = pure [(p1, u1)]) : Binds K fd [p1] [] := by
  refine F.binds fun kV doc pm an cdv ct us h0 => ?_
  obtain ⟨u1, r1, rfl, h1⟩ := len_cons (n := 0) h0
  cases List.length_eq_zero_iff.mp h1
  exact h kV doc pm an cdv ct u1
theorem Fun.b2 (F : Fun K x qual st f fd) (h : ∀ (kV doc pm : Value) (an : Option Addr) (cdv ct u1 u2 : Value), bindArgs (PySem.W.fnOf x qual (defArgs st) (defBody st) (defScope st) .none kV doc pm an cdv ct) ⟨[u1, u2], []⟩ = pure [(p1, u1), (p2, u2)]) : Binds K fd [p1, p2] [] := by
  refine F.binds fun kV doc pm an cdv ct us h0 => ?_
  obtain ⟨u1, r1, rfl, h1⟩ := len_cons (n := 1) h0
  obtain ⟨u2, r2, rfl, h2⟩ := len_cons (n := 0) h1
  cases List.length_eq_zero_iff.mp h2
  exact h kV doc pm an cdv ct u1 u2
theorem Fun.b3 (F : Fun K x qual st f fd) (h : ∀ (kV doc pm : Value) (an : Option Addr) (cdv ct u1 u2 u3 : Value), bindArgs (PySem.W.fnOf x qual (defArgs st) (defBody st) (defScope st) .none kV doc pm an cdv ct) ⟨[u1, u2, u3], []⟩ = pure [(p1, u1), (p2, u2), (p3, u3)]) : Binds K fd [p1, p2, p3] [] := by
  refine F.binds fun kV doc pm an cdv ct us h0 => ?_
  obtain ⟨u1, r1, rfl, h1⟩ := len_cons (n := 2) h0
  obtain ⟨u2, r2, rfl, h2⟩ := len_cons (n := 1) h1
  obtain ⟨u3, r3, rfl, h3⟩ := len_cons (n := 0) h2
  cases List.length_eq_zero_iff.mp h3
  exact h kV doc pm an cdv ct u1 u2 u3
theorem Fun.b4 (F : Fun K x qual st f fd) (h : ∀ (kV doc pm : Value) (an : Option Addr) (cdv ct u1 u2 u3 u4 : Value), bindArgs (PySem.W.fnOf x qual (defArgs st) (defBody st) (defScope st) .none kV doc pm an cdv ct) ⟨[u1, u2, u3, u4], []⟩ = pure [(p1, u1), (p2, u2), (p3, u3), (p4, u4)]) : Binds K fd [p1, p2, p3, p4] [] := by
  refine F.binds fun kV doc pm an cdv ct us h0 => ?_
  obtain ⟨u1, r1, rfl, h1⟩ := len_cons (n := 3) h0
  obtain ⟨u2, r2, rfl, h2⟩ := len_cons (n := 2) h1
  obtain ⟨u3, r3, rfl, h3⟩ := len_cons (n := 1) h2
  obtain ⟨u4, r4, rfl, h4⟩ := len_cons (n := 0) h3
  cases List.length_eq_zero_iff.mp h4
  exact h kV doc pm an cdv ct u1 u2 u3 u4
theorem Fun.b5 (F : Fun K x qual st f fd) (h : ∀ (kV doc pm : Value) (an : Option Addr) (cdv ct u1 u2 u3 u4 u5 : Value), bindArgs (PySem.W.fnOf x qual (defArgs st) (defBody st) (defScope st) .none kV doc pm an cdv ct) ⟨[u1, u2, u3, u4, u5], []⟩ = pure [(p1, u1), (p2, u2), (p3, u3), (p4, u4), (p5, u5)]) : Binds K fd [p1, p2, p3, p4, p5] [] := by
  refine F.binds fun kV doc pm an cdv ct us h0 => ?_
  obtain ⟨u1, r1, rfl, h1⟩ := len_cons (n := 4) h0
  obtain ⟨u2, r2, rfl, h2⟩ := len_cons (n := 3) h1
  obtain ⟨u3, r3, rfl, h3⟩ := len_cons (n := 2) h2
  obtain ⟨u4, r4, rfl, h4⟩ := len_cons (n := 1) h3
  obtain ⟨u5, r5, rfl, h5⟩ := len_cons (n := 0) h4
  cases List.length_eq_zero_iff.mp h5
  exact h kV doc pm an cdv ct u1 u2 u3 u4 u5
end
end L2
namespace L2
open PySem PySem.Spec PyProof.Rows

/-! ### what a block closes over -/
def clOf (env : Env) (names : List (Str × NameKind)) : List (Str × Addr) :=
  names.foldl (fun cs y => if y.2 == NameKind.free then (y.1, (env.cells.lookup y.1).getD 0) :: cs else cs) []
theorem clFold {env : Env} : ∀ (names : List (Str × NameKind)) (cs : List (Str × Addr)), (∀ y ∈ names, y.2 = .free → ∃ c, env.cells.lookup y.1 = some c) →
    (forIn names cs fun (y : Str × NameKind) (r : List (Str × Addr)) => (if y.2 == NameKind.free then (do let a ← cellOf env y.1; pure (ForInStep.yield ((y.1, a) :: r))) else pure (ForInStep.yield r) : Sem (ForInStep (List (Str × Addr))))) =
      pure (names.foldl (fun cs y => if y.2 == NameKind.free then (y.1, (env.cells.lookup y.1).getD 0) :: cs else cs) cs)
  | [], cs, _ => rfl
  | (n, k) :: r, cs, h => by
    have ih := fun cs' => clFold (env := env) r cs' fun y hy => h y (List.mem_cons_of_mem _ hy)
    rw [List.forIn_cons, List.foldl_cons]
    by_cases hk : k = .free
    · subst hk
      obtain ⟨c, hc⟩ := h (n, .free) List.mem_cons_self rfl
      have e : cellOf env n = pure c := by unfold cellOf; rw [hc]
      simp only [beq_self_eq_true, if_true, e, pure_bind, hc, Option.getD_some]
      exact ih _
    · have hb : (k == NameKind.free) = false := by simpa using hk
      simp only [hb, Bool.false_eq_true, if_false, pure_bind]
      exact ih _
theorem closure_of {scope : Scope} {env : Env} (h : ∀ y ∈ scope.names, y.2 = .free → ∃ c, env.cells.lookup y.1 = some c) : closureFor scope env = pure (clOf env scope.names) := by
  unfold closureFor
  have e := clFold (env := env) scope.names [] h
  simp only [] at e ⊢
  refine Eq.trans ?_ (congrArg (fun m : Sem (List (Str × Addr)) => m >>= fun cs => pure cs) e)
  rfl
theorem cl_get {env : Env} {x : Str} {c : Addr} : ∀ (names : List (Str × NameKind)) (cs : List (Str × Addr)), (∀ y ∈ names, y.2 = .free → ∃ c, env.cells.lookup y.1 = some c) →
    (names.foldl (fun cs y => if y.2 == NameKind.free then (y.1, (env.cells.lookup y.1).getD 0) :: cs else cs) cs).lookup x = some c → cs.lookup x = some c ∨ env.cells.lookup x = some c
  | [], _, _, e => .inl e
  | (n, k) :: r, cs, h, e => by
    rw [List.foldl_cons] at e
    have ih := cl_get r _ (fun y hy => h y (List.mem_cons_of_mem _ hy)) e
    rcases ih with q | q
    · by_cases hk : k = .free
      · subst hk
        obtain ⟨c', hc⟩ := h (n, .free) List.mem_cons_self rfl
        simp only [beq_self_eq_true, if_true, hc, Option.getD_some, List.lookup_cons] at q
        cases hx : x == n with
        | true =>
          rw [hx] at q
          have : x = n := by simpa using hx
          subst this
          simp only [Option.some.injEq] at q
          subst q
          exact .inr hc
        | false =>
          rw [hx] at q
          exact .inl q
      · have hb : (k == NameKind.free) = false := by simpa using hk
        simp only [hb, Bool.false_eq_true, if_false] at q
        exact .inl q
    · exact .inr q
theorem cl_has {env : Env} {x : Str} : ∀ (names : List (Str × NameKind)) (cs : List (Str × Addr)), ((x, NameKind.free) ∈ names ∨ ∃ c, cs.lookup x = some c) →
    ∃ c, (names.foldl (fun cs y => if y.2 == NameKind.free then (y.1, (env.cells.lookup y.1).getD 0) :: cs else cs) cs).lookup x = some c
  | [], _, e => by rcases e with e | e; exact absurd e (by simp); exact e
  | (n, k) :: r, cs, e => by
    rw [List.foldl_cons]
    refine cl_has r _ ?_
    rcases e with e | ⟨c, e⟩
    · rcases List.mem_cons.mp e with z | z
      · cases z
        right
        simp only [beq_self_eq_true, if_true, List.lookup_cons]
        exact ⟨_, rfl⟩
      · exact .inl z
    · right
      by_cases hk : k = .free
      · subst hk
        simp only [beq_self_eq_true, if_true, List.lookup_cons]
        cases hx : x == n with
        | true => exact ⟨_, rfl⟩
        | false => exact ⟨c, e⟩
      · have hb : (k == NameKind.free) = false := by simpa using hk
        simp only [hb, Bool.false_eq_true, if_false]
        exact ⟨c, e⟩
/-- a name that the block holds as a cell or as free was free there -/
theorem relabel_free {env : Env} {x : Str} : ∀ {names : List (Str × NameKind)}, (∀ y ∈ names, y.2 ≠ .cell) →
    ((names.map fun (n, k) => if (k == NameKind.free && env.scope.kind == .function && env.kindOf n == some .cell) then (n, NameKind.cell) else (n, k)).lookup x = some .cell ∨
     (names.map fun (n, k) => if (k == NameKind.free && env.scope.kind == .function && env.kindOf n == some .cell) then (n, NameKind.cell) else (n, k)).lookup x = some .free) → (x, NameKind.free) ∈ names
  | [], _, h => by simp at h
  | (n, k) :: r, hc, h => by
    have ih := @relabel_free env x r fun y hy => hc y (List.mem_cons_of_mem _ hy)
    have hk := hc (n, k) List.mem_cons_self
    simp only [List.map_cons] at h
    by_cases cc : (k == NameKind.free && env.scope.kind == .function && env.kindOf n == some .cell) = true
    · rw [if_pos cc] at h
      have kf : k = .free := by
        simp only [Bool.and_eq_true, beq_iff_eq] at cc
        exact cc.1.1
      subst kf
      simp only [List.lookup_cons] at h
      cases hx : x == n with
      | true =>
        have : x = n := by simpa using hx
        subst this
        exact List.mem_cons_self
      | false => rw [hx] at h; exact List.mem_cons_of_mem _ (ih h)
    · rw [if_neg cc] at h
      simp only [List.lookup_cons] at h
      cases hx : x == n with
      | true =>
        rw [hx] at h
        have : x = n := by simpa using hx
        subst this
        rcases h with h | h
        · simp only [Option.some.injEq] at h
          exact absurd h hk
        · simp only [Option.some.injEq] at h
          subst h
          exact List.mem_cons_self
      | false => rw [hx] at h; exact List.mem_cons_of_mem _ (ih h)

/-- the tests of a clause, as one tree -/
abbrev testsT (ifs : List Expr) (env : Env) : Sem Bool := forIn ifs true fun c r =>
  if r = true then do
    let ok ← isTrue c env (eval c env)
    pure (ForInStep.yield ok)
  else pure (ForInStep.yield r)
/-! ### the tests of a clause -/
def PIfs (X : Cx) (ifs : List Expr) (t : TT) : Prop :=
  ∀ (pins : List (Addr × Obj)) (s : Shared) (σ : St) (H : Hp) (Q : Bool → Hp → Prop), Inv X pins σ H s → t σ H Q →
    wpAny (model X.prog X.w) X.A (testsT ifs X.env) (TP X pins σ Q) X.xe s
def tYes : TT := fun _ H Q => Q true H
theorem pf_nil {X : Cx} : PIfs X [] tYes := fun _ _ _ H _ I h => wpAny_tests_nil ⟨H, I, h⟩
theorem pf_one {X : Cx} {c : Expr} {t : TT} (h : PT X c t) : PIfs X [c] t := fun pins s σ H Q I q => wpAny_tests_one (h pins s σ H Q I q)

abbrev Nope : Value → Shared → Prop := fun _ _ => False
/-- the loop of a comprehension, with the step ahead of the store; nothing is raised -/
theorem comp_loop {prog : Program} {w : World} {A : Around} {R : Result → Shared → Prop} {s0 : Shared} {elt target iter : Expr} {ifs : List Expr} {scope : Scope} {pos : Pos} {it acc : Value} {env : Env} (W : Nat → Shared → Prop)
    (one : ∀ k t, W k t → wpAny (model prog w) A (pyNext it) (fun r t1 => match r with
      | none => R (.ok .next) t1
      | some v => wpAny (model prog w) A (letOwnedTupleGo target it v) (fun _ t2 => wpAny (model prog w) A (assign target env v) (fun _ t3 => wpAny (model prog w) A (testsT ifs env) (fun ok t4 =>
          if ok = true then wpAny (model prog w) A (eval elt env) (fun x t5 => wpAny (model prog w) A (call (.builtin "list.append") [acc, x]) (fun _ t6 => ∃ j, j < k ∧ W j t6) Nope t5) Nope t4
          else ∃ j, j < k ∧ W j t4) Nope t3) Nope t2) Nope t1) Nope t)
    (k0 : Nat) (h0 : W k0 s0) : codeAny (model prog w) A (.compLoop (.ListComp elt [⟨target, iter, ifs, 0⟩] scope pos) 0 it acc env) R s0 := by
  refine codeAny_loop rfl W (fun k t hW => ?_) k0 h0
  refine wpAny_noted (m := compTurn (.ListComp elt [⟨target, iter, ifs, 0⟩] scope pos) 0 it acc env) ?_
  have no : ∀ {P : Prop} {e : Value} {t : Shared}, Nope e t → P := fun z => z.elim
  rw [compTurn_list]
  refine wpAny_bind (wpAny_standAt (wpAny_bind (wpAny_mono (one k t hW) (fun r t1 q1 => ?_) fun _ _ => no)))
  match r with
  | none => exact wpAny_pure q1
  | some v =>
    refine wpAny_bind (wpAny_mono q1 (fun _ t2 q2 => wpAny_bind (wpAny_mono q2 (fun _ t3 q3 => wpAny_bind (wpAny_mono q3 (fun ok t4 q4 => ?_) fun _ _ => no)) fun _ _ => no)) fun _ _ => no)
    match ok with
    | false => exact wpAny_pure ⟨rfl, q4⟩
    | true =>
      rw [if_pos rfl] at q4
      refine wpAny_bind (wpAny_bind (wpAny_mono q4 (fun x t5 q5 => wpAny_bind (wpAny_mono q5 (fun _ t6 q6 => ?_) fun _ _ => no)) fun _ _ => no))
      exact wpAny_pure (wpAny_pure ⟨rfl, q6⟩)

/-! ### the block of a comprehension -/
/-- the block's names' values at its start: none, or those of the def's names -/
def entV (ix : List (Option Nat)) (σ : St) : St := ix.map fun o => o.bind fun j => σ[j]?.join
theorem entV_get {ix : List (Option Nat)} {σ : St} {i : Nat} {v : V} (h : (entV ix σ)[i]? = some (some v)) : ∃ j, ix[i]? = some (some j) ∧ σ[j]? = some (some v) := by
  unfold entV at h
  rw [List.getElem?_map] at h
  cases e : ix[i]? with
  | none => rw [e] at h; cases h
  | some o =>
    rw [e] at h
    cases o with
    | none => cases h
    | some j =>
      have h : some (σ[j]?.join) = some (some v) := h
      refine ⟨j, rfl, ?_⟩
      cases q : σ[j]? with
      | none => rw [q] at h; cases h
      | some z => rw [q] at h; cases h; rfl
/-- N': the block's names; ix: for each of them where it stands among the def's names (or none: a target) -/
def compOk (N : List Str) (sc scope : Scope) (N' : List Str) (ix : List (Option Nat)) : Bool :=
  ix.length == N'.length && (ix.zip N').all (fun p => match p.1 with | none => true | some j => N[j]? == some p.2 && scope.names.lookup p.2 == some NameKind.free) &&
  scope.names.all (fun y => y.2 != NameKind.cell && (y.2 != NameKind.free || sc.names.lookup y.1 == some NameKind.cell || sc.names.lookup y.1 == some NameKind.free) && (y.2 != NameKind.local || scope.names.lookup y.1 == some NameKind.local)) &&
  scope.kind == ScopeKind.function
structure CompOk (N : List Str) (sc scope : Scope) (N' : List Str) (ix : List (Option Nat)) : Prop where
  len : ix.length = N'.length
  at_ : ∀ (i j : Nat) (x : Str), ix[i]? = some (some j) → N'[i]? = some x → N[j]? = some x ∧ scope.names.lookup x = some .free
  nocell : ∀ y ∈ scope.names, y.2 ≠ .cell
  free : ∀ y ∈ scope.names, y.2 = .free → sc.names.lookup y.1 = some .cell ∨ sc.names.lookup y.1 = some .free
  loc : ∀ y ∈ scope.names, y.2 = .local → scope.names.lookup y.1 = some .local
  kind : scope.kind = .function
theorem CompOk.of {N : List Str} {sc scope : Scope} {N' : List Str} {ix : List (Option Nat)} (h : compOk N sc scope N' ix = true) : CompOk N sc scope N' ix := by
  unfold compOk at h
  simp only [Bool.and_eq_true, beq_iff_eq, List.all_eq_true] at h
  obtain ⟨⟨⟨h1, h2⟩, h3⟩, h4⟩ := h
  refine ⟨h1, fun i j x a b => ?_, fun y hy e => ?_, fun y hy e => ?_, fun y hy e => ?_, h4⟩
  · have hm : (some j, x) ∈ ix.zip N' := List.mem_of_getElem? (i := i) (by rw [List.getElem?_zip_eq_some]; exact ⟨a, b⟩)
    have q := h2 _ hm
    simp only [Bool.and_eq_true, beq_iff_eq] at q
    exact q
  · have q := h3 y hy
    simp only [Bool.and_eq_true, bne_iff_ne, ne_eq] at q
    exact q.1.1 e
  · have q := (h3 y hy).1.2
    rw [e] at q
    simpa using q
  · have q := (h3 y hy).2
    rw [e] at q
    simpa using q

/-- the context of the block: its frame at C, entered at s₂, H₂, its iterator's records fp -/
def compCx (X : Cx) (N' : List Str) (scope : Scope) (C : Addr) (s₂ : Shared) (H₂ : Hp) (fp : List Addr) : Cx where
  prog := X.prog
  w := X.w
  K := X.K
  mg := X.mg
  base := X.base
  A := X.A
  N := N'
  s₀ := s₂
  H₀ := H₂
  env := compEnvC scope (clOf X.env scope.names) C X.env
  outer := X.stack
  stack := X.stack
  ex := fp
  fn := fun _ => false
  calm := X.calm
  pn := []
  xe := fun _ _ => False
section
variable {X : Cx} {N' : List Str} {ix : List (Option Nat)} {scope : Scope} {pins : List (Addr × Obj)} {σ : St} {H₂ : Hp} {s₂ : Shared} {fp : List Addr} {C : Addr}
theorem CompOk.cells (S : CompOk X.N X.env.scope scope N' ix) (I : Inv X pins σ H₂ s₂) : ∀ y ∈ scope.names, y.2 = .free → ∃ c, X.env.cells.lookup y.1 = some c := fun y hy e => I.ok.has y.1 (S.free y hy e)
theorem CompOk.get (S : CompOk X.N X.env.scope scope N' ix) (I : Inv X pins σ H₂ s₂) {x : Str} {c : Addr} (h : (clOf X.env scope.names).lookup x = some c) : X.env.cells.lookup x = some c := by
  rcases cl_get scope.names [] (S.cells I) h with q | q
  · exact absurd q (by simp)
  · exact q
theorem compCx_ok (S : CompOk X.N X.env.scope scope N' ix) (I : Inv X pins σ H₂ s₂) (hf : ∀ b ∈ fp, FpOk X pins H₂ b) (hC : s₂.heap.objs.size ≤ C) (hfC : ∀ b ∈ fp, b < s₂.heap.objs.size) : (compCx X N' scope C s₂ H₂ fp).Ok where
  mod := I.ok.mod
  kind := S.kind
  glob := I.ok.glob
  blt := I.ok.blt
  above := hC
  inj := fun x y c a b => I.ok.inj x y c (S.get I a) (S.get I b)
  has := fun x h => cl_has scope.names [] (.inl (relabel_free S.nocell h))
  cab := fun x c h => by cases h
  hd := I.ok.hd
  frames := I.ok.frames
  stk := .inl rfl
  exf := fun b hb => ⟨Nat.ne_of_lt (Nat.lt_of_lt_of_le (hfC b hb) hC), fun x c e => (hf b hb).2.2.2.2.1 x c (S.get I e)⟩
  bs := I.bs
  bsz := Nat.le_trans I.ok.bsz I.sz
  noex := fun b o e hb => by
    rcases (hf b hb).2.2.2.1 with z | z
    · exact I.ok.noex b o e z
    · exact absurd (Nat.lt_of_lt_of_le (Heap.lt_size e) (Nat.le_trans I.ok.bsz z)) (Nat.lt_irrefl _)
  exfs := fun b hb hm => by
    rcases List.mem_cons.mp (I.stkSub b hm) with z | z
    · exact (hf b hb).2.1 z
    · exact (hf b hb).2.2.1 z
  funs := I.stack
  frf := I.stkFree
/-- the block is entered: a list D and its frame C are laid, both untracked -/
theorem comp_start (S : CompOk X.N X.env.scope scope N' ix) (I : Inv X pins σ H₂ s₂) (hf : ∀ b ∈ fp, FpOk X pins H₂ b) (hfC : ∀ b ∈ fp, b < s₂.heap.objs.size) {D : Addr} {h₁ : Heap} {tk : Nat} {m : Str → Option Value} {ob : Obj}
    (hC : s₂.heap.objs.size ≤ C) (hD : s₂.heap.objs.size ≤ D) (hDC : D ≠ C) (old : ∀ b o, s₂.heap.get? b = some o → h₁.get? b = some o) (hn : h₁.Ns C m) (hob : h₁.get? D = some ob) (hd : ∀ v, ob.data ≠ .cell v) :
    Inv (compCx X N' scope C s₂ H₂ fp) [(D, ob)] (entV ix σ) H₂ { s₂ with heap := h₁, toks := tk } := by
  have fr : ∀ a, s₂.heap.objs.size ≤ a → H₂ a = none := fun a ha => I.hok.fresh ha
  have cOf : ∀ x c, (clOf X.env scope.names).lookup x = some c → X.env.cells.lookup x = some c := fun x c e => S.get I e
  refine ⟨compCx_ok S I hf hC hfC, rfl, I.bare, Un.kept old, ⟨m, hn, fun i x v e1 e2 e3 => ?_⟩, fun x c e => ?_, fr C hC, fun x c e => I.freeC x c (cOf x c e), fun p hp => ?_, I.hok.kept old, ?_⟩
  · obtain ⟨j, q1, q2⟩ := entV_get e2
    obtain ⟨n1, n2⟩ := S.at_ i j x q1 e1
    have hm : (x, NameKind.free) ∈ scope.names := PySem.mem_of_lookup n2
    have hv : Vis X.env.scope x := by
      rcases S.free _ hm rfl with z | z
      · exact .inr (.inl z)
      · exact .inr (.inr z)
    obtain ⟨m0, _, hl⟩ := I.loc
    obtain ⟨u, r, l⟩ := hl j x v n1 q2 hv
    refine ⟨u, r, ?_⟩
    have hne : ¬ X.env.kindOf x = some .local := fun z => by
      have z : X.env.scope.names.lookup x = some .local := z
      rcases S.free _ hm rfl with y | y
      · rw [y] at z; cases z
      · rw [y] at z; cases z
    rcases l with ⟨k, _⟩ | ⟨k, c, e, z⟩
    · exact absurd k hne
    · obtain ⟨c', hc'⟩ := cl_has (env := X.env) (x := x) scope.names [] (.inl hm)
      have hc'' := cOf x c' hc'
      rw [e] at hc''
      cases hc''
      have kk : (compCx X N' scope C s₂ H₂ fp).env.kindOf x = some .cell ∨ (compCx X N' scope C s₂ H₂ fp).env.kindOf x = some .free := by
        rcases e3 with y | y | y
        · exfalso
          have : ∀ {names : List (Str × NameKind)}, names.lookup x = some .free →
            (names.map fun (n, k) => if (k == NameKind.free && X.env.scope.kind == .function && X.env.kindOf n == some .cell) then (n, NameKind.cell) else (n, k)).lookup x = some .local → False := by
            intro names
            induction names with
            | nil => intro a; simp at a
            | cons p r ih =>
              obtain ⟨n, k⟩ := p
              intro a b
              simp only [List.map_cons] at b
              simp only [List.lookup_cons] at a
              cases hx : x == n with
              | true =>
                rw [hx] at a
                simp only [Option.some.injEq] at a
                subst a
                split at b
                · simp [List.lookup_cons, hx] at b
                · simp [List.lookup_cons, hx] at b
              | false =>
                rw [hx] at a
                split at b
                · simp only [List.lookup_cons, hx] at b; exact ih a b
                · simp only [List.lookup_cons, hx] at b; exact ih a b
          exact this n2 y
        · exact .inl y
        · exact .inr y
      obtain ⟨oc, ho, hod⟩ := z
      exact .inr ⟨kk, c, hc', oc, old _ _ ho, hod⟩
  · obtain ⟨v, o, ho, hod⟩ := I.cell x c (cOf x c e)
    exact ⟨v, o, old _ _ ho, hod⟩
  · have hp : p ∈ [(D, ob)] := hp
    have e : p = (D, ob) := by simpa using hp
    subst e
    refine ⟨hob, fr D hD, hDC, fun hb => ?_, hd⟩
    have hb : D ∈ frs X.stack := hb
    rcases List.mem_cons.mp (I.stkSub D hb) with z | z
    · exact absurd I.lt (by rw [← z]; exact Nat.not_lt.mpr hD)
    · exact I.nofs hD z
  · show (entV ix σ).length = N'.length
    unfold entV
    rw [List.length_map, S.len]
/-- the block is left: the list is tracked -/
theorem comp_leave (I : Inv X pins σ H₂ s₂) (hf : ∀ b ∈ fp, FpOk X pins H₂ b) {pins' : List (Addr × Obj)} {σ' : St} {H' : Hp} {s' : Shared} {D : Addr} {ys : List V} {its : List Value} (hC : s₂.heap.objs.size ≤ C) (hD : s₂.heap.objs.size ≤ D)
    (J : Inv (compCx X N' scope C s₂ H₂ fp) pins' σ' H' s') (hn : H' D = none) (hl : s'.heap.PlainList D its.toArray) (r : Vals ys its) (hz : ys.length ≤ sizeLine) : Inv X pins σ (upd H' D (.lst ys)) s' := by
  have sb : Un (frs X.stack) fp H₂ H' s₂.heap s'.heap := J.base
  have nD : ∀ b u, H' b = some u → b ≠ D := fun b u e => ne_of_none e hn
  refine I.call' (ch := fp) J.os ⟨sb.keep, sb.slot, fun b o e n hx => ?_, sb.there, fun b xs e => ?_, fun b o u e => ?_, fun b ps e => ?_⟩ (fun b u e => ?_) J.bare (fun b hb => ?_)
  · rw [upd_ne (Nat.ne_of_lt (Nat.lt_of_lt_of_le (Heap.lt_size e) hD))]
    exact sb.free b o e n hx
  · have q := sb.tups b xs e
    rw [upd_ne (nD b _ q)]; exact q
  · have q := sb.frzs b o u e
    rw [upd_ne (nD b _ q)]; exact q
  · obtain ⟨more, q⟩ := sb.tbls b ps e
    exact ⟨more, by rw [upd_ne (nD b _ q)]; exact q⟩
  · by_cases hb : b = D
    · subst hb
      rw [upd_same] at e
      cases e
      obtain ⟨n, hg⟩ := hl
      exact ⟨hz, its, n, r, hg⟩
    · rw [upd_ne hb] at e
      exact (J.hok b u e).stay (fun c v _ q => q) (fun c q => by rw [upd_ne (nD c _ q)]; exact q) fun c xs q => by rw [upd_ne (nD c _ q)]; exact q
  · obtain ⟨_, f1, _, f3, f4, f5⟩ := hf b hb
    exact ⟨f3, f1, f4, f5⟩
end
end L2
namespace L2
open PySem PySem.Spec PyProof.Rows

/-- a comprehension: W is what holds between two turns, ys the items so far -/
def CompW (J : It) (g : TG) (tc : TT) (te : TE) (Kf : List V → Hp → Prop) (σ0 : St) (H1 : Hp) : Prop :=
  ∃ W : Nat → Nat → List V → St → Hp → Prop, (∃ m, W 0 m [] σ0 H1) ∧ ∀ i m ys σ' H', W i m ys σ' H' → ys.length < sizeLine ∧
    ((J.stop i H' ∧ Kf ys H') ∨ (J.go i H' ∧ ∃ N : List V → St → Hp → Prop, (∀ ys' σ2 H2, N ys' σ2 H2 → ∃ m', m' < m ∧ W (i + 1) m' ys' σ2 H2) ∧ ∀ x H'', J.yld i H' x H'' → g x σ' H'' fun σ2 H2 => tc σ2 H2 fun b H3 =>
      if b = true then te σ2 H3 fun y H4 => N (ys ++ [y]) σ2 H4 else N ys σ2 H3))
def tComp (wi : TI) (ix : List (Option Nat)) (g : TG) (tc : TT) (te : TE) : TE := fun σ H Q =>
  wi σ H fun J H1 => CompW J g tc te (fun ys H' => ∀ l, H' l = none → Q (.ref l) (upd H' l (.lst ys))) (entV ix σ) H1

section
variable {X : Cx} {tg elt iter : Expr} {ifs : List Expr} {scope : Scope} {pos : Pos} {N' : List Str} {ix : List (Option Nat)} {wi : TI} {g : TG} {tc : TT} {te : TE}

/-- where the block ends -/
def CompEnd (X : Cx) (pins : List (Addr × Obj)) (σ : St) (Kf : List V → Hp → Prop) (acc : Value) (C : Addr) (s' : Shared) : Prop :=
  ∃ D H' ys, acc = .ref D ∧ H' D = none ∧ Inv X pins σ (upd H' D (.lst ys)) s' ∧ (∃ m, s'.heap.Ns C m) ∧ H' C = none ∧ D ≠ C ∧ C ≠ X.env.locals ∧ X.s₀.heap.objs.size ≤ C ∧ (∀ x c, X.env.cells.lookup x = some c → c ≠ C) ∧ (∀ p ∈ X.pn ++ pins, p.1 ≠ C) ∧ Kf ys H'

theorem comp_core {pins : List (Addr × Obj)} {s₂ : Shared} {σ : St} {H₂ : Hp} {it : Addr} {fp : List Addr} {tn : Nat → Heap → Prop} {J : It} {Kf : List V → Hp → Prop} {RR : Value → Addr → Result → Shared → Prop} {E : Value → Shared → Prop}
    (S : CompOk X.N X.env.scope scope N' ix) (hc : X.calm = true)
    (hg : ∀ C s₂ H₂ fp, PG (compCx X N' scope C s₂ H₂ fp) tg g) (ht : ∀ C s₂ H₂ fp, PIfs (compCx X N' scope C s₂ H₂ fp) ifs tc) (he : ∀ C s₂ H₂ fp, PE (compCx X N' scope C s₂ H₂ fp) elt te)
    (I2 : Inv X pins σ H₂ s₂) (T : Turn X.prog X.w X.K tg J fp it tn) (st2 : tn 0 s₂.heap) (f2 : ∀ b ∈ fp, FpOk X pins H₂ b) (w : CompW J g tc te Kf (entV ix σ) H₂)
    (hR : ∀ acc C s', CompEnd X pins σ Kf acc C s' → RR acc C (.ok .next) s') :
    wpAny (model X.prog X.w) X.A (newList []) (fun acc s₃ => wpAny (model X.prog X.w) X.A (newFunctionEnv scope X.env.globals (clOf X.env scope.names) [] X.env.qual none .none (some X.env)) (fun cenv s₄ =>
      codeAny (model X.prog X.w) X.A (.compStart (.ListComp elt [⟨tg, iter, ifs, 0⟩] scope pos) 0 (.ref it) acc { cenv with scope := relabel scope X.env }) (RR acc cenv.locals) s₄) E s₃) E s₂ := by
  obtain ⟨W, ⟨m0, w0⟩, turn⟩ := w
  refine wpAny_newObj_type (wpAny_newFunctionEnv S.nocell (by intro y hy; simp at hy) (fun h₁ nsN sbN => ?_) S.kind)
  dsimp only at nsN sbN ⊢
  generalize eH : s₂.heap.push { cls := .type "list", dict := none, data := .seq ([] : List Value).toArray } = G2 at nsN sbN ⊢
  have sizeC : G2.objs.size = s₂.heap.objs.size + 1 := by rw [← eH, Heap.size_push]
  have neDC : s₂.heap.objs.size ≠ G2.objs.size := by rw [sizeC]; exact Nat.ne_of_lt (Nat.lt_succ_self _)
  have leC : s₂.heap.objs.size ≤ G2.objs.size := by rw [sizeC]; exact Nat.le_succ _
  have older : ∀ b, b < s₂.heap.objs.size → b ≠ G2.objs.size ∧ b ≠ s₂.heap.objs.size := fun b hb => ⟨by rw [sizeC]; exact Nat.ne_of_lt (Nat.lt_succ_of_lt hb), Nat.ne_of_lt hb⟩
  have keepOld : ∀ b o, s₂.heap.get? b = some o → h₁.get? b = some o := fun b o e => sbN.extBut b o (older b (Heap.lt_size e)).1 (Heap.get?_push_of_some _ (eH ▸ Heap.get?_push_of_some _ e))
  have accNew : h₁.PlainList s₂.heap.objs.size #[] := ⟨_, sbN.extBut _ _ neDC (Heap.get?_push_of_some _ (eH ▸ Heap.get?_push_size _ rfl))⟩
  generalize eC : G2.objs.size = C at *
  generalize eD : s₂.heap.objs.size = D at *
  have hfC : ∀ b ∈ fp, b < s₂.heap.objs.size := fun b hb => by
    obtain ⟨o, e, _⟩ := T.obj 0 _ st2 b hb
    exact Heap.lt_size e
  have hfD : ∀ b ∈ fp, b ≠ D := fun b hb => by have := hfC b hb; rw [eD] at this; exact Nat.ne_of_lt this
  have hfC' : ∀ b ∈ fp, b ≠ C := fun b hb => by have := hfC b hb; rw [eD] at this; exact Nat.ne_of_lt (Nat.lt_of_lt_of_le this leC)
  have geD : s₂.heap.objs.size ≤ D := by rw [eD]; exact Nat.le_refl _
  have geC : s₂.heap.objs.size ≤ C := by rw [eD]; exact leC
  obtain ⟨nn, hob⟩ := id accNew
  have J1 : Inv (compCx X N' scope C s₂ H₂ fp) [] (entV ix σ) H₂ { s₂ with heap := h₁, toks := s₂.toks + ([] : List (Str × Value)).length } :=
    (comp_start S I2 f2 hfC geC geD neDC keepOld nsN hob (fun v z => by cases z)).pins_of (fun p hp => absurd hp (by simp))
  have nfsD : D ∉ frs X.stack := fun hb => by
    rcases List.mem_cons.mp (I2.stkSub D hb) with z | z
    · exact absurd I2.lt (by rw [← z]; exact Nat.not_lt.mpr geD)
    · exact I2.nofs geD z
  have cOf : ∀ x c, (clOf X.env scope.names).lookup x = some c → c ≠ D ∧ c ≠ C := fun x c e => by
    obtain ⟨v, z⟩ := I2.cell x c (S.get I2 e)
    have := z.lt
    rw [eD] at this
    exact ⟨Nat.ne_of_lt this, Nat.ne_of_lt (Nat.lt_of_lt_of_le this leC)⟩
  -- the records may turn, whatever is pinned besides
  have fpk : ∀ {pl : List (Addr × Obj)} {H' : Hp}, (∀ b ∈ fp, H' b = none) → (∀ p ∈ pl, p.1 ∉ fp) → ∀ b ∈ fp, FpOk (compCx X N' scope C s₂ H₂ fp) pl H' b := fun {pl H'} hn hp b hb =>
    ⟨hn b hb, hfC' b hb, fun z => by
        rcases List.mem_cons.mp (I2.stkSub b z) with q | q
        · exact (f2 b hb).2.1 q
        · exact (f2 b hb).2.2.1 q,
      .inl hb, fun x c e => (f2 b hb).2.2.2.2.1 x c (S.get I2 e), fun p hp' z => hp p (by simpa [compCx] using hp') (by rw [z]; exact hb)⟩
  have dpk : ∀ {H' : Hp}, H' D = none → ∀ b ∈ [D], FpOk (compCx X N' scope C s₂ H₂ fp) [] H' b := fun {H'} hn b hb => by
    have e : b = D := by simpa using hb
    subst e
    exact ⟨hn, neDC, nfsD, .inr geD, fun x c e => (cOf x c e).1, fun p hp => absurd hp (by simp [compCx])⟩
  have loop : codeAny (model X.prog X.w) X.A (.compLoop (.ListComp elt [⟨tg, iter, ifs, 0⟩] scope pos) 0 (.ref it) (.ref D) (compEnvC scope (clOf X.env scope.names) C X.env)) (RR (.ref D) C) { s₂ with heap := h₁, toks := s₂.toks + ([] : List (Str × Value)).length } := by
    refine comp_loop (fun n s' => ∃ i ys σ' H' its, Inv (compCx X N' scope C s₂ H₂ fp) [] σ' H' s' ∧ tn i s'.heap ∧ (∀ b ∈ fp, H' b = none) ∧ H' D = none ∧ s'.heap.PlainList D its.toArray ∧ Vals ys its ∧ W i n ys σ' H') ?_ m0
      ⟨0, [], _, H₂, [], J1, T.keep _ _ _ st2 fun b _ o e => keepOld b o e, fun b hb => (f2 b hb).1, I2.hok.fresh geD, accNew, .nil, w0⟩
    rintro n s3 ⟨i, ys, σ3, H3, its, I3, st3, fr3, dn3, pl3, rv3, w3⟩
    obtain ⟨nn3, hob3⟩ := id pl3
    have oD : ∀ b ∈ [D], ∃ o, s3.heap.get? b = some o ∧ ∀ v, o.data ≠ .cell v := fun b hb => by
      have e : b = D := by simpa using hb
      subst e
      exact ⟨_, hob3, fun v z => by cases z⟩
    have I3' : Inv (compCx X N' scope C s₂ H₂ fp) (pinsAt [D] s3.heap) σ3 H3 s3 := by
      have := I3.pinned (dpk dn3) oD
      simpa using this
    have pD : (D, ({ cls := .type "list", data := .seq its.toArray nn3 } : Obj)) ∈ pinsAt [D] s3.heap := mem_pinsAt (by simp) hob3
    have npD : ∀ p ∈ pinsAt [D] s3.heap, p.1 ∉ fp := fun p hp z => by
      have e : p.1 = D := by simpa using (of_pinsAt hp).1
      exact hfD _ z e
    obtain ⟨hys, tt⟩ := turn i n ys σ3 H3 w3
    rcases tt with ⟨stop, qn⟩ | ⟨go, N, hN, step⟩
    · refine wpAny_mono (T.done (compCx X N' scope C s₂ H₂ fp) rfl rfl rfl hc i (pinsAt [D] s3.heap) s3 σ3 H3 (fun _ _ => False) I3' (fpk fr3 npD) st3 stop) (fun r s4 ⟨hr, I4⟩ => ?_) fun _ _ z => z
      subst hr
      have g4 := (I4.pin _ (List.mem_append_right _ pD)).1
      refine hR _ _ _ ⟨D, H3, ys, rfl, dn3, comp_leave I2 f2 geC geD I4 dn3 ⟨nn3, g4⟩ rv3 (Nat.le_of_lt hys), ?_, ?_, neDC, ?_, ?_, ?_, ?_, qn⟩
      · obtain ⟨m, hm, _⟩ := I4.loc
        exact ⟨m, hm⟩
      · exact I4.free
      · exact Nat.ne_of_gt (Nat.lt_of_lt_of_le I2.lt geC)
      · exact Nat.le_trans I2.sz geC
      · intro x c e z
        obtain ⟨v, q⟩ := I2.cell x c e
        exact absurd (Nat.lt_of_lt_of_le q.lt geC) (by rw [z]; exact Nat.lt_irrefl _)
      · intro p hp z
        exact absurd (Nat.lt_of_lt_of_le (Heap.lt_size (I2.pin p hp).1) geC) (by rw [z]; exact Nat.lt_irrefl _)
    · refine wpAny_mono (T.item (compCx X N' scope C s₂ H₂ fp) rfl rfl rfl hc i (pinsAt [D] s3.heap) s3 σ3 H3 (fun _ _ => False) I3' (fpk fr3 npD) st3 go) (fun r s4 ⟨u, hr, h4⟩ => ?_) fun _ _ z => z
      subst hr
      refine wpAny_mono h4 (fun _ s5 ⟨x, H5, I5, r5, y5, st5, fr5⟩ => ?_) fun _ _ z => z
      have I5' := I5.pinned (fpk fr5 npD) (T.obj _ _ st5)
      refine wpAny_mono (hg C s₂ H₂ fp _ s5 σ3 H5 x u _ I5' r5 (step x H5 y5)) (fun _ s6 ⟨σ6, H6, I6, q6⟩ => ?_) fun _ _ z => z
      refine wpAny_mono (ht C s₂ H₂ fp _ s6 σ6 H6 _ I6 q6) (fun b s7 ⟨H7, I7, q7⟩ => ?_) fun _ _ z => z
      have fin : ∀ {s8 : Shared} {σ8 : St} {H8 : Hp}, Inv (compCx X N' scope C s₂ H₂ fp) (pinsAt [D] s3.heap ++ pinsAt fp s5.heap) σ8 H8 s8 → s8.heap.get? D = some { cls := .type "list", data := .seq its.toArray nn3 } ∧ H8 D = none ∧
          tn (i + 1) s8.heap ∧ ∀ b ∈ fp, H8 b = none := fun {s8 σ8 H8} I8 => by
        have q := I8.pin _ (List.mem_append_right _ (List.mem_append_left _ pD))
        refine ⟨q.1, q.2.1, T.keep _ _ _ st5 fun b hb o e => (I8.pin (b, o) (List.mem_append_right _ (List.mem_append_right _ (mem_pinsAt hb e)))).1, fun b hb => ?_⟩
        obtain ⟨o, e, d⟩ := T.obj _ _ st5 b hb
        exact (I8.pin (b, o) (List.mem_append_right _ (List.mem_append_right _ (mem_pinsAt hb e)))).2.1
      cases b with
      | false =>
        obtain ⟨m', hm, w7⟩ := hN _ _ _ q7
        obtain ⟨a1, a2, a3, a4⟩ := fin I7
        exact ⟨m', hm, i + 1, ys, σ6, H7, its, I7.pins_of fun p hp => absurd hp (by simp), a3, a4, a2, ⟨nn3, a1⟩, rv3, w7⟩
      | true =>
        refine wpAny_mono (he C s₂ H₂ fp _ s7 σ6 H7 _ I7 q7) (fun v s8 ⟨y, H8, I8, r8, n8⟩ => ?_) fun _ _ z => z
        obtain ⟨m', hm, w8⟩ := hN _ _ _ n8
        obtain ⟨a1, a2, a3, a4⟩ := fin I8
        have hsz : its.toArray.size ≤ sizeLine := by
          have := rv3.length
          rw [List.size_toArray]
          omega
        refine wpAny_list_append_plain (hsz := hsz) ⟨nn3, a1⟩ fun h9 hl9 hs9 => ?_
        have I9 : Inv (compCx X N' scope C s₂ H₂ fp) [] σ6 H8 { s8 with heap := h9 } :=
          (I8.pins_of (pins' := []) fun p hp => absurd hp (by simp)).turned (t' := s8.toks) (fun b o hb e => (hs9.2 b hb).trans e) a2 neDC (.inr geD) (fun x c e => (cOf x c e).1) fun p hp => absurd hp (by simp [compCx])
        refine ⟨m', hm, i + 1, ys ++ [y], σ6, H8, its ++ [v], I9, T.keep _ _ _ a3 fun b hb o e => (hs9.2 b (hfD b hb)).trans e, a4, a2, ?_, rv3.append (.cons r8 .nil), w8⟩
        have e : (its ++ [v]).toArray = its.toArray.push v := by simp
        rw [e]; exact hl9
  exact codeAny_compStart_list loop (T.self _ 0 _ _ _ (T.keep _ _ _ st2 fun b _ o e => keepOld b o e) loop)

/-- [elt for tg in iter if ..] -/
theorem pe_comp (N' : List Str) (ix : List (Option Nat)) (hi : PI X tg iter wi) (hg : ∀ C s₂ H₂ fp, PG (compCx X N' scope C s₂ H₂ fp) tg g) (ht : ∀ C s₂ H₂ fp, PIfs (compCx X N' scope C s₂ H₂ fp) ifs tc)
    (he : ∀ C s₂ H₂ fp, PE (compCx X N' scope C s₂ H₂ fp) elt te) (S : compOk X.N X.env.scope scope N' ix = true := by rfl) (hc : X.calm = true := by rfl) (hs : ∀ x, foldedSetIterable iter X.env x = pure x := by intro _; rfl) :
    PE X (.ListComp elt [⟨tg, iter, ifs, 0⟩] scope pos) (tComp wi ix g tc te) := by
  intro pins s σ H Q I h
  have S := CompOk.of S
  rw [eval_ListComp]
  refine wpAny_comprehension_free (use := none) (cl := clOf X.env scope.names) rfl hs (closure_of fun y hy e => I.ok.has y.1 (S.free y hy e)) S.kind S.loc (thn (hi pins s σ H _ I h) fun xv s₁ h₁ => thn h₁ fun itv s₂ h₂ => ?_)
  obtain ⟨it, fp, tn, J, H₂, rfl, I2, T, st2, f2, w⟩ := h₂
  refine comp_core (RR := fun acc C => compPost (model X.prog X.w) X.A X.xe none (EP X pins σ Q) acc C) S hc hg ht he I2 T st2 f2 w fun acc C s' ce => ?_
  obtain ⟨D, H', ys, rfl, dn, J', hm, cn, dc, c1, c2, c3, c4, kf⟩ := ce
  obtain ⟨m, hm⟩ := hm
  refine ⟨m, hm, fun h' hs' => ⟨.ref D, _, J'.turned (t' := s'.toks) (fun b o hb e => (hs'.2 b hb).trans e) (by rw [upd_ne dc.symm]; exact cn) c1 (.inr c2) c3 c4, rfl, kf D dn⟩⟩

/-- x = [elt for tg in iter if ..] where the list goes right into its name -/
theorem ps_setC (N' : List Str) (ix : List (Option Nat)) {i : Nat} {x : Str} {pos' spos : Pos} (hN : X.N.Nodup) (hxi : X.N[i]? = some x) (hx : Loc X.env.scope x) (hi : PI X tg iter wi) (hg : ∀ C s₂ H₂ fp, PG (compCx X N' scope C s₂ H₂ fp) tg g) (ht : ∀ C s₂ H₂ fp, PIfs (compCx X N' scope C s₂ H₂ fp) ifs tc)
    (he : ∀ C s₂ H₂ fp, PE (compCx X N' scope C s₂ H₂ fp) elt te) (S : compOk X.N X.env.scope scope N' ix = true := by rfl) (hc : X.calm = true := by rfl) (hs : ∀ x, foldedSetIterable iter X.env x = pure x := by intro _; rfl)
    (hsw : swapsWith (.ListComp elt [⟨tg, iter, ifs, 0⟩] scope pos) (some (.Name x pos')) spos.line X.env = pure true := by rfl) (hf : X.fn x = true ∨ X.env.scope.names.lookup x = some .local := by first | exact .inl rfl | exact .inr rfl | assumption) :
    PS X (.Assign [.Name x pos'] (.ListComp elt [⟨tg, iter, ifs, 0⟩] scope pos) spos) (tAsg (tComp wi ix g tc te) (gName i)) := by
  intro pins s σ H D I h
  have S := CompOk.of S
  rw [exec_Assign_Name_used _ _ _ _ hsw]
  refine wpAny_bind (wpAny_standAt (wpAny_bind ?_))
  show wpAny _ X.A (do let _ ← comprehension (.ListComp elt [⟨tg, iter, ifs, 0⟩] scope pos) scope X.env _ (newList []) false (eval iter X.env) (some (assign (.Name x pos') X.env))) _ _ s
  refine wpAny_bind (wpAny_mono (wpAny_comprehension_free (use := some (assign (.Name x pos') X.env)) (cl := clOf X.env scope.names) (Q := fun _ s' => SP X pins D .next s') rfl hs (closure_of fun y hy e => I.ok.has y.1 (S.free y hy e)) S.kind S.loc
    (thn (hi pins s σ H _ I h) fun xv s₁ h₁ => thn h₁ fun itv s₂ h₂ => ?_)) (fun _ s' hq => wpAny_pure (wpAny_pure hq)) fun _ _ e => e)
  obtain ⟨it, fp, tn, J, H₂, rfl, I2, T, st2, f2, w⟩ := h₂
  refine comp_core (RR := fun acc C => compPost (model X.prog X.w) X.A X.xe (some (assign (.Name x pos') X.env)) (fun _ s' => SP X pins D .next s') acc C) S hc hg ht he I2 T st2 f2 w fun acc C s' ce => ?_
  obtain ⟨D', H', ys, rfl, dn, J', hm, cn, dc, c1, c2, c3, c4, kf⟩ := ce
  obtain ⟨m, hm⟩ := hm
  show wpAny _ X.A (assign (.Name x pos') X.env (.ref D')) _ _ _
  refine wpAny_assign_Name (store_ok2 (v := .ref D') J' hN hxi hx rfl (fun s2 J2 hsb => ?_) hf)
  obtain ⟨a, hsb, ha⟩ := hsb
  have hCa : C ≠ a := by
    rcases ha with z | z
    · rw [z]; exact c1
    · exact (c3 x a z).symm
  refine ⟨m, hm.sameBut hsb hCa, fun h' hs' => ?_⟩
  exact ⟨_, _, J2.turned (t' := s2.toks) (fun b o hb e => (hs'.2 b hb).trans e) (by rw [upd_ne dc.symm]; exact cn) c1 (.inr c2) c3 c4, kf D' dn⟩

/-- over a list that stays -/
theorem comp_list {K : PySem.W.Frag} {a : Addr} {xs : List V} {Kf : List V → Hp → Prop} {σ0 : St} {H1 : Hp} (Pv : Nat → List V → St → Hp → Prop) (hz : xs.length < sizeLine) (h0 : Pv 0 [] σ0 H1) (hb : ∀ i ys σ H, Pv i ys σ H → ys.length ≤ i) (hl : ∀ i ys σ H, i ≤ xs.length → Pv i ys σ H → SqL K H a xs)
    (hs : ∀ i x ys σ H, xs[i]? = some x → Pv i ys σ H → g x σ H fun σ2 H2 => tc σ2 H2 fun b H3 => if b = true then te σ2 H3 fun y H4 => Pv (i + 1) (ys ++ [y]) σ2 H4 else Pv (i + 1) ys σ2 H3) (hd : ∀ ys σ H, Pv xs.length ys σ H → Kf ys H) : CompW (Itl K a) g tc te Kf σ0 H1 := by
  refine ⟨fun i m ys σ H => m = xs.length - i ∧ i ≤ xs.length ∧ Pv i ys σ H, ⟨xs.length, by simp, Nat.zero_le _, h0⟩, ?_⟩
  rintro i m ys σ H ⟨rfl, hi, p⟩
  have q := hl i ys σ H hi p
  refine ⟨Nat.lt_of_le_of_lt (hb _ _ _ _ p) (Nat.lt_of_le_of_lt hi hz), ?_⟩
  by_cases hlt : i < xs.length
  · refine .inr ⟨⟨xs, xs[i], q, by simp [hlt]⟩, Pv (i + 1), fun ys' σ' H' p' => ⟨xs.length - (i + 1), by omega, rfl, hlt, p'⟩, fun x H' y => ?_⟩
    obtain ⟨e, y⟩ := y
    subst e
    exact hs i x ys σ _ (y xs q) p
  · have e : i = xs.length := by omega
    subst e
    exact .inl ⟨⟨xs, q, Nat.le_refl _⟩, hd ys σ H p⟩
theorem comp_tup {K : PySem.W.Frag} {a : Addr} {xs : List V} {Kf : List V → Hp → Prop} {σ0 : St} {H1 : Hp} (Pv : Nat → List V → St → Hp → Prop) (hz : xs.length < sizeLine) (h0 : Pv 0 [] σ0 H1) (hb : ∀ i ys σ H, Pv i ys σ H → ys.length ≤ i) (hl : ∀ i ys σ H, i ≤ xs.length → Pv i ys σ H → SqT K H a xs)
    (hs : ∀ i x ys σ H, xs[i]? = some x → Pv i ys σ H → g x σ H fun σ2 H2 => tc σ2 H2 fun b H3 => if b = true then te σ2 H3 fun y H4 => Pv (i + 1) (ys ++ [y]) σ2 H4 else Pv (i + 1) ys σ2 H3) (hd : ∀ ys σ H, Pv xs.length ys σ H → Kf ys H) : CompW (Itt K a) g tc te Kf σ0 H1 := by
  refine ⟨fun i m ys σ H => m = xs.length - i ∧ i ≤ xs.length ∧ Pv i ys σ H, ⟨xs.length, by simp, Nat.zero_le _, h0⟩, ?_⟩
  rintro i m ys σ H ⟨rfl, hi, p⟩
  have q := hl i ys σ H hi p
  refine ⟨Nat.lt_of_le_of_lt (hb _ _ _ _ p) (Nat.lt_of_le_of_lt hi hz), ?_⟩
  by_cases hlt : i < xs.length
  · refine .inr ⟨⟨xs, xs[i], q, by simp [hlt]⟩, Pv (i + 1), fun ys' σ' H' p' => ⟨xs.length - (i + 1), by omega, rfl, hlt, p'⟩, fun x H' y => ?_⟩
    obtain ⟨e, y⟩ := y
    subst e
    exact hs i x ys σ _ (y xs q) p
  · have e : i = xs.length := by omega
    subst e
    exact .inl ⟨⟨xs, q, Nat.le_refl _⟩, hd ys σ H p⟩
theorem comp_range {lo : Int} {n : Nat} {Kf : List V → Hp → Prop} {σ0 : St} {H1 : Hp} (Pv : Nat → List V → St → Hp → Prop) (hz : n < sizeLine) (h0 : Pv 0 [] σ0 H1) (hb : ∀ i ys σ H, Pv i ys σ H → ys.length ≤ i)
    (hs : ∀ i ys σ H, i < n → Pv i ys σ H → g (.int (lo + i)) σ H fun σ2 H2 => tc σ2 H2 fun b H3 => if b = true then te σ2 H3 fun y H4 => Pv (i + 1) (ys ++ [y]) σ2 H4 else Pv (i + 1) ys σ2 H3) (hd : ∀ ys σ H, Pv n ys σ H → Kf ys H) : CompW (Itr lo n) g tc te Kf σ0 H1 := by
  refine ⟨fun i m ys σ H => m = n - i ∧ i ≤ n ∧ Pv i ys σ H, ⟨n, by simp, Nat.zero_le _, h0⟩, ?_⟩
  rintro i m ys σ H ⟨rfl, hi, p⟩
  refine ⟨Nat.lt_of_le_of_lt (hb _ _ _ _ p) (Nat.lt_of_le_of_lt hi hz), ?_⟩
  by_cases hlt : i < n
  · refine .inr ⟨hlt, Pv (i + 1), fun ys' σ' H' p' => ⟨n - (i + 1), by omega, rfl, hlt, p'⟩, fun x H' y => ?_⟩
    obtain ⟨e, y⟩ := y
    subst e y
    exact hs i ys σ _ hlt p
  · have e : i = n := by omega
    subst e
    exact .inl ⟨Nat.le_refl _, hd ys σ H p⟩
end
end L2
namespace L2
open PySem PySem.Spec PyProof.Rows
theorem revNoLen : typeLookup (.type "list_reverseiterator") "__len__" = pure none := by rw [typeLookup_type, builtinLookup_eq_fast]; kernel_rfl
theorem revHint : typeLookup (.type "list_reverseiterator") "__length_hint__" = pure (some (.builtin "list_reverseiterator.__length_hint__")) := by rw [typeLookup_type, builtinLookup_eq_fast]; kernel_rfl
/-- the new list at S, as the call of list leaves it empty -/
abbrev newL : Obj := { cls := .type "list", data := .seq #[] }
section
variable {prog : Program} {w : World} {A : Around} {E : Value → Shared → Prop} {Q : Value → Shared → Prop} {s : Shared} {it p : Addr} {items : Array Value}
/-- list(it) where it walks the list at p from its end -/
theorem list_of_rev (hh : A.handled = none) (ne : p ≠ it) (hi : s.heap.IsRevIter it p ((items.size : Int) - 1)) (hp : s.heap.IsList p items) (hz : items.size ≤ sizeLine)
    (k : ∀ t got c, (∀ b o, b ≠ it → s.heap.get? b = some o → t.heap.get? b = some o) → t.gens = s.gens → t.os = s.os →
      t.heap.get? s.heap.objs.size = some { cls := .type "list", dict := none, data := .seq got c, slots := #[] } → got.toList = items.toList.reverse → Q (.ref s.heap.objs.size) t) :
    wpAny (model prog w) A (call (.type "list") [.ref it]) Q E s := by
  let W := (Walks.listRev (prog := prog) (w := w) (A := A.in1.in1) hh it p ne items).toS
  have st0 : 0 ≤ items.size ∧ s.heap.IsRevIter it p ((items.size : Int) - 1 - ((0 : Nat) : Int)) ∧ s.heap.IsList p items := ⟨Nat.zero_le _, by simpa using hi, hp⟩
  have itLt : it < s.heap.objs.size := by
    obtain ⟨o, e, _⟩ := hi
    exact Heap.lt_size e
  have pLt : p < s.heap.objs.size := by
    obtain ⟨o, e, _⟩ := hp
    exact Heap.lt_size e
  have fresh : s.heap.objs.size ∉ [it, p] := fun m => by
    rcases List.mem_cons.mp m with z | z
    · exact Nat.lt_irrefl _ (z ▸ itLt)
    · exact Nat.lt_irrefl _ ((List.mem_singleton.mp z) ▸ pLt)
  have neS : s.heap.objs.size ≠ it := fun z => fresh (by rw [z]; exact List.mem_cons_self)
  refine callType_codes (Q₁ := fun o t => o = .ref s.heap.objs.size ∧ t = { s with heap := s.heap.push newL }) F.called_list (F.typeCall_list_1 _) F.entry_list_init (code_list_new _ ⟨rfl, rfl⟩) ?_
  rintro _ _ ⟨rfl, rfl⟩
  have hS : (s.heap.push newL).get? s.heap.objs.size = some newL := Heap.get?_push_size _ rfl
  refine ⟨⟨_, hS, rfl⟩, F.args_list_init_2 _ _, ?_⟩
  -- list.__init__: emptied, then extended
  refine wpAny_bind (m := Builtin.List.listItems (.ref s.heap.objs.size)) (wpAny_bind (wpAny_seqItems hS rfl (wpAny_pure ?_)))
  refine wpAny_bind (m := updateSeq s.heap.objs.size fun _ => #[]) (wpAny_updateSeq hS rfl (wpAny_bind (wpAny_letGo ?_)))
  have hS2 := Heap.get?_update_self (Obj.mapSeq fun _ => (#[] : Array Value)) hS rfl
  have older : ∀ b o, s.heap.get? b = some o → ((s.heap.push newL).update s.heap.objs.size (Obj.mapSeq fun _ => (#[] : Array Value))).get? b = some o := fun b o e =>
    (Heap.get?_update_other _ _ (Nat.ne_of_gt (Heap.lt_size e))).trans (Heap.get?_push_of_some _ e)
  have st1 := W.frame 0 s ((s.heap.push newL).update s.heap.objs.size (Obj.mapSeq fun _ => (#[] : Array Value))) s.toks st0 (Nat.le_refl _) fun b _ o e => older b o e
  have ty : ∀ i t, (fun (i : Nat) (t : Shared) => i ≤ items.size ∧ t.heap.IsRevIter it p ((items.size : Int) - 1 - (i : Int)) ∧ t.heap.IsList p items) i t → t.TypeIs (.ref it) "list_reverseiterator" := fun i t z => z.2.1.typeIs
  unfold Builtin.List.listExtendWith
  refine wpAny_bind (wpAny_typeOf (ty 0 _ st1) ?_)
  have same : Builtin.List.listSameRef (.ref s.heap.objs.size) (.ref it) = false := by simp [Builtin.List.listSameRef, neS]
  rw [if_neg (by rw [same]; decide)]
  refine wpAny_bind (W.self 0 _ _ _ st1 (wpAny_bind (wpAny_holding ?_)))
  unfold Builtin.List.listLengthHint
  refine wpAny_bind (wpAny_specialOf (ty 0 _ st1) revNoLen ?_)
  refine wpAny_bind (m := specialOf (Value.ref it) (Str.ofString "__length_hint__")) (wpAny_specialOf (ty 0 _ st1) revHint ?_)
  generalize hid : ("list_reverseiterator.__length_hint__" : String) = id0
  wp_delta
  rw [show splitId id0 = some ("list_reverseiterator", "__length_hint__") from by subst hid; decide +kernel]
  subst hid
  refine wpAny_bind (wpAny_isInstance (b := true) (ty 0 _ st1) (by rw [isSubtype_type]; kernel_rfl) (wpAny_pure ?_))
  rw [if_neg (by decide)]
  refine wpAny_pure ⟨plainId_quiet F.plain_extend_loop _, codeAny_extend_loopS W hz _ fresh _ items.size 0 _ _ _ rfl (Nat.zero_le _) st1 hS2 (ItemsOf.nil _) fun t got c mv at' its => ⟨rfl, ?_⟩⟩
  refine k t got c (fun b o hb e => mv.heap b o (fun m => ?_) (older b o e)) mv.gens mv.os at' ?_
  · rcases List.mem_cons.mp m with z | z
    · exact absurd (Heap.lt_size e) (by rw [z]; exact Nat.lt_irrefl _)
    · exact hb (List.mem_singleton.mp z)
  · obtain ⟨len, each⟩ := its
    refine List.ext_getElem? fun j => ?_
    by_cases hj : j < items.size
    · have g : got[j]? = some got[j] := Array.getElem?_eq_getElem (by omega)
      rw [List.getElem?_reverse (by simpa using hj), Array.getElem?_toList, Array.getElem?_toList, g, ← each j _ g]
      simp
    · rw [List.getElem?_eq_none (by simp; omega), List.getElem?_eq_none (by simp; omega)]
end
/-- list(reversed(e)), e a list -/
def tListRev (K : PySem.W.Frag) (te : TE) : TE := fun σ H Q => te σ H fun x H1 => ∃ a ys, x = .ref a ∧ SqL K H1 a ys ∧ ∀ l, H1 l = none → Q (.ref l) (upd H1 l (.lst ys.reverse))
theorem pe_listrev {X : Cx} {e : Expr} {te : TE} {p1 p2 pos1 pos2 : Pos} (he : PE X e te) (g1 : Gl X "list") (m1 : X.mg "list" = none) (g2 : Gl X "reversed") (m2 : X.mg "reversed" = none) (hc : X.calm = true := by rfl)
    (hs1 : starEach [.Call (.Name "reversed" p2) [e] [] pos2] X.env = [(false, eval (.Call (.Name "reversed" p2) [e] [] pos2) X.env)] := by rfl) (hs2 : starEach [e] X.env = [(false, eval e X.env)] := by rfl) :
    PE X (.Call (.Name "list" p1) [.Call (.Name "reversed" p2) [e] [] pos2] [] pos1) (tListRev X.K te) := by
  intro pins s σ H Q I h
  refine wpAny_Call_Name_kw (ld_blt I g1 m1 PyProof.Rows.boot_list ?_)
  refine PyProof.Rows.callWith_type1 ?_ hs1 rfl
  rw [hs1]
  refine Calls.spliced_cons (wpAny_Call_Name_kw (ld_blt I g2 m2 PyProof.Rows.boot_reversed ?_))
  refine PyProof.Rows.callWith_type1 ?_ hs2 rfl
  rw [hs2]
  refine Calls.spliced_cons (thn (he pins s σ H _ I h) fun u s1 ⟨x, H1, I1, r1, a, ys, ex, hq, q⟩ => Calls.spliced_nil ?_)
  subst ex
  cases r1
  obtain ⟨its, rv, pl, hz⟩ := I1.list hq
  have il := pl.isList
  refine call_reversed_list il (Calls.spliced_nil ?_)
  have I2 : Inv X pins σ H1 { s1 with heap := s1.heap.push (revObj a ((its.toArray.size : Int) - 1)) } := I1.kept (t' := s1.toks) fun b o e => Heap.get?_push_of_some _ e
  have aLt : a < s1.heap.objs.size := by
    obtain ⟨o, e, _⟩ := il
    exact Heap.lt_size e
  have len := rv.length
  obtain ⟨f0, f1, f2, f3, f4, f5⟩ : FpOk X pins H1 s1.heap.objs.size := I1.fpOk (Nat.le_refl _) (I1.hok.fresh (Nat.le_refl _))
  refine list_of_rev (p := a) (items := its.toArray) (I.ok.hd hc) (Nat.ne_of_lt aLt) ⟨_, Heap.get?_push_size _ rfl, rfl, rfl⟩ (il.at fun o e => Heap.get?_push_of_some _ e) (by rw [List.size_toArray]; omega) ?_
  intro t got c keep gens os at' eg
  obtain ⟨D, eD⟩ : ∃ D, (s1.heap.push (revObj a ((its.toArray.size : Int) - 1))).objs.size = D := ⟨_, rfl⟩
  have hD : (s1.heap.push (revObj a ((its.toArray.size : Int) - 1))).objs.size ≤ D := Nat.le_of_eq eD
  dsimp only at at' ⊢
  rw [eD] at at' ⊢
  have fD : H1 D = none := I2.hok.fresh hD
  have neT : ∀ b u, H1 b = some u → b ≠ s1.heap.objs.size := fun b u e z => by rw [z, f0] at e; cases e
  refine ⟨.ref D, upd H1 D (.lst ys.reverse), I2.call' (ch := [s1.heap.objs.size]) os ⟨fun b o e n _ hx => keep b o (fun z => hx (by simp [z])) e, fun b o e n _ hx => ⟨o.slots, keep b o (fun z => hx (by simp [z])) e⟩, fun b o e n _ => ?_, fun b o e hx => ⟨o, keep b o (fun z => hx (by simp [z])) e⟩, fun b xs e => ?_, fun b o u e => ?_, fun b ps e => ⟨#[], ?_⟩⟩ (fun b u e => ?_) (by rw [gens]; exact I2.bare) (fun b hb => ?_), rfl, q D fD⟩
  · rw [upd_ne (fun z => absurd (Heap.lt_size e) (by rw [z]; exact Nat.not_lt.mpr hD))]; exact n
  · rw [upd_ne (ne_of_none e fD)]; exact e
  · rw [upd_ne (ne_of_none e fD)]; exact e
  · rw [upd_ne (ne_of_none e fD), e]; simp
  · by_cases hb : b = D
    · subst hb
      rw [upd_same] at e
      cases e
      have at2 : t.heap.get? b = some { cls := .type "list", dict := none, data := .seq its.reverse.toArray c, slots := #[] } := by
        rw [at', ← Array.toArray_toList (xs := got), eg]
      exact ⟨by rw [List.length_reverse]; exact hz, its.reverse, c, Vals.reverse rv, at2⟩
    · rw [upd_ne hb] at e
      refine (I2.hok b u e).stay (fun c' v hc' q' => keep c' v ?_ q') (fun c' q' => by rw [upd_ne (ne_of_none q' fD)]; exact q') fun c' xs q' => by rw [upd_ne (ne_of_none q' fD)]; exact q'
      rcases hc' with z | z
      · rw [z]; exact neT b u e
      · exact neT c' _ z
  · have z : b = s1.heap.objs.size := by simpa using hb
    subst z
    exact ⟨f3, f1, f4, f5⟩
end L2
namespace L2
open PySem PySem.Spec PyProof.Rows
/-- // by a number of at most 250 bits -/
def CDivB (i j : Int) : Prop := 0 < j ∧ j < 2 ^ 250
theorem op_fdivB {X : Cx} : OpR X (binaryOp .FloorDiv) (rI CDivB fun i j => .int (i / j)) := opI fun i j _ _ _ _ _ hc q => by
  obtain ⟨h0, h1⟩ := hc
  refine floordiv_int (by omega) ?_ (.inl (PyProof.noPylong_of_log2 ?_))
  · rw [Int.fdiv_eq_ediv_of_nonneg i (by omega)]; exact q
  · have h2 : j.natAbs < 2 ^ 250 := by
      have e : ((j.natAbs : Nat) : Int) = j := Int.natAbs_of_nonneg (by omega)
      have : ((j.natAbs : Nat) : Int) < ((2 ^ 250 : Nat) : Int) := by rw [e]; exact_mod_cast h1
      exact Int.ofNat_lt.mp this
    have h3 : j.natAbs ≠ 0 := by omega
    have h4 : j.natAbs.log2 < 250 := (Nat.log2_lt h3).mpr h2
    exact Nat.lt_of_lt_of_le h4 (by decide)

/-! ### a deal and its draws -/
def dealK (sd n : Int) (l : Addr) : List (Key × V) := [(.inr "seed", .int sd), (.inr "number", .int n), (.inr "left", .ref l)]
theorem ksn : ¬ ((Sum.inr ("seed" : Str) : Key) = Sum.inr ("number" : Str)) := by decide +kernel
theorem ksl : ¬ ((Sum.inr ("seed" : Str) : Key) = Sum.inr ("left" : Str)) := by decide +kernel
theorem knl : ¬ ((Sum.inr ("number" : Str) : Key) = Sum.inr ("left" : Str)) := by decide +kernel
theorem kns : ¬ ((Sum.inr ("number" : Str) : Key) = Sum.inr ("seed" : Str)) := by decide +kernel
theorem kls : ¬ ((Sum.inr ("left" : Str) : Key) = Sum.inr ("seed" : Str)) := by decide +kernel
theorem kln : ¬ ((Sum.inr ("left" : Str) : Key) = Sum.inr ("number" : Str)) := by decide +kernel
theorem deal_seed (sd n : Int) (l : Addr) : valV (dealK sd n l) (Sum.inr "seed" : Key) = some (.int sd) := by unfold dealK; rw [valV_pos rfl]
theorem deal_number (sd n : Int) (l : Addr) : valV (dealK sd n l) (Sum.inr "number" : Key) = some (.int n) := by unfold dealK; rw [valV_neg ksn, valV_pos rfl]
theorem deal_left (sd n : Int) (l : Addr) : valV (dealK sd n l) (Sum.inr "left" : Key) = some (.ref l) := by unfold dealK; rw [valV_neg ksl, valV_neg knl, valV_pos rfl]
theorem put_seed (sd n v : Int) (l : Addr) : putK (dealK sd n l) (Sum.inr "seed" : Key) (.int v) = dealK v n l := by
  unfold putK dealK
  simp
  exact ⟨fun z => absurd (congrArg Sum.inr z) kns, fun z => absurd (congrArg Sum.inr z) kls⟩
theorem put_number (sd n v : Int) (l : Addr) : putK (dealK sd n l) (Sum.inr "number" : Key) (.int v) = dealK sd v l := by
  unfold putK dealK
  simp
  exact ⟨fun z => absurd (congrArg Sum.inr z) ksn, fun z => absurd (congrArg Sum.inr z) kln⟩
structure DealAt (H : Hp) (d l : Addr) (sd n : Int) (ls : List Int) : Prop where
  dc : H d = some (.dK (dealK sd n l))
  lc : H l = some (.lst (ls.map V.int))
  s0 : 0 ≤ sd
  s1 : sd < 2147483647
  n0 : 0 ≤ n
  l0 : ∀ x ∈ ls, 0 ≤ x
def Deal (H : Hp) (d l : Addr) : Prop := ∃ sd n ls, DealAt H d l sd n ls
theorem DealAt.ne {H : Hp} {d l : Addr} {sd n : Int} {ls : List Int} (D : DealAt H d l sd n ls) : d ≠ l := ne_of D.dc D.lc (by intro z; cases z)
/-- all but the deal is as it was -/
def Out (d l : Addr) (H H' : Hp) : Prop := ∀ b o, H b = some o → b ≠ d → b ≠ l → H' b = some o
theorem Out.refl {d l : Addr} (H : Hp) : Out d l H H := fun _ _ e _ _ => e
theorem Out.trans {d l : Addr} {H H1 H2 : Hp} (a : Out d l H H1) (b : Out d l H1 H2) : Out d l H H2 := fun c o e h1 h2 => b c o (a c o e h1 h2) h1 h2
theorem Out.of {d l : Addr} {H H' : Hp} (s : Same H H') : Out d l H H' := fun c o e _ _ => s c o e
theorem Out.upd_d {d l : Addr} {H : Hp} {o : HO} : Out d l H (upd H d o) := fun b u e h1 _ => by rw [upd_ne h1]; exact e
theorem Out.upd_l {d l : Addr} {H : Hp} {o : HO} : Out d l H (upd H l o) := fun b u e _ h1 => by rw [upd_ne h1]; exact e
theorem same_new {H : Hp} {p : Addr} (h : H p = none) (o : HO) : Same H (upd H p o) := fun b u q => by rw [upd_ne (ne_of_none q h)]; exact q
theorem DealAt.seed {H : Hp} {d l : Addr} {sd n : Int} {ls : List Int} (D : DealAt H d l sd n ls) {v : Int} (h0 : 0 ≤ v) (h1 : v < 2147483647) : DealAt (upd H d (.dK (dealK v n l))) d l v n ls :=
  ⟨upd_same, by rw [upd_ne D.ne.symm]; exact D.lc, h0, h1, D.n0, D.l0⟩
theorem DealAt.number {H : Hp} {d l : Addr} {sd n : Int} {ls : List Int} (D : DealAt H d l sd n ls) {v : Int} (h0 : 0 ≤ v) : DealAt (upd H d (.dK (dealK sd v l))) d l sd v ls :=
  ⟨upd_same, by rw [upd_ne D.ne.symm]; exact D.lc, D.s0, D.s1, h0, D.l0⟩
theorem DealAt.left {H : Hp} {d l : Addr} {sd n : Int} {ls ls' : List Int} (D : DealAt H d l sd n ls) (h : ∀ x ∈ ls', 0 ≤ x) : DealAt (upd H l (.lst (ls'.map V.int))) d l sd n ls' :=
  ⟨by rw [upd_ne D.ne]; exact D.dc, upd_same, D.s0, D.s1, D.n0, h⟩
theorem DealAt.out {H H' : Hp} {d l : Addr} {sd n : Int} {ls : List Int} (D : DealAt H d l sd n ls) (s : Same H H') : DealAt H' d l sd n ls := ⟨s _ _ D.dc, s _ _ D.lc, D.s0, D.s1, D.n0, D.l0⟩
theorem Deal.same {H H' : Hp} {d l : Addr} (D : Deal H d l) (s : Same H H') : Deal H' d l := let ⟨sd, n, ls, q⟩ := D; ⟨sd, n, ls, q.out s⟩
theorem DealAt.gs {H : Hp} {d l : Addr} {sd n : Int} {ls : List Int} (D : DealAt H d l sd n ls) : DGet H d (.str "seed") (some (.int sd)) := by rw [← deal_seed sd n l]; exact DGet.k (k := Sum.inr "seed") D.dc
theorem DealAt.gn {H : Hp} {d l : Addr} {sd n : Int} {ls : List Int} (D : DealAt H d l sd n ls) : DGet H d (.str "number") (some (.int n)) := by rw [← deal_number sd n l]; exact DGet.k (k := Sum.inr "number") D.dc
theorem DealAt.gl {H : Hp} {d l : Addr} {sd n : Int} {ls : List Int} (D : DealAt H d l sd n ls) : DGet H d (.str "left") (some (.ref l)) := by rw [← deal_left sd n l]; exact DGet.k (k := Sum.inr "left") D.dc
theorem DealAt.ps {H : Hp} {d l : Addr} {sd n : Int} {ls : List Int} (D : DealAt H d l sd n ls) (v : Int) : DPut H d (.str "seed") (.int v) (upd H d (.dK (dealK v n l))) := by
  rw [← put_seed sd n v l]; exact DPut.k (k := Sum.inr "seed") D.dc (small1000 (by show 3 ≤ 1000; decide))
theorem DealAt.pn {H : Hp} {d l : Addr} {sd n : Int} {ls : List Int} (D : DealAt H d l sd n ls) (v : Int) : DPut H d (.str "number") (.int v) (upd H d (.dK (dealK sd v l))) := by
  rw [← put_number sd n v l]; exact DPut.k (k := Sum.inr "number") D.dc (small1000 (by show 3 ≤ 1000; decide))
/-- a draw below m: some number, the deal turned, nothing else -/
def spDraw : Sp := fun vs H Q _ => ∃ (d l : Addr) (m : Int), vs = [.ref d, .int m] ∧ Deal H d l ∧ 0 < m ∧ m < 2 ^ 64 ∧
  ∀ (r : Int) (H' : Hp), 0 ≤ r → r < m → Deal H' d l → Out d l H H' → Q (.int r) H'
/-- a deal of the script -/
def spDeal (K : PySem.W.Frag) : Sp := fun vs H Q _ => ∃ (a : Addr) (ns : List Int) (b : Int), vs = [.ref a, .int b] ∧ SqL K H a (ns.map V.int) ∧ ns.length ≤ 63 ∧ 0 ≤ b ∧ b ≤ 1000 ∧
  ∀ (d l : Addr) (H' : Hp), H d = none → H l = none → Deal H' d l → Same H H' → Q (.ref d) H'
theorem ints_at {ns : List Int} {i : Nat} {y : V} (h : (ns.map V.int)[i]? = some y) : ∃ z, y = V.int z ∧ ns[i]? = some z := by
  rw [List.getElem?_map] at h
  cases e : ns[i]? with
  | none => rw [e] at h; cases h
  | some z => rw [e] at h; exact ⟨z, (Option.some.inj h).symm, rfl⟩
end L2
namespace L2
open PySem PySem.Spec PyProof.Rows
/-! ### plain data: ints, texts, bools, None, tuples, lists -/
mutual
def RepD (K : PySem.W.Frag) (H : Hp) : PyData → V → Prop
  | .none, v => v = .non
  | .bool b, v => v = .bl b
  | .int i, v => v = .int i
  | .str x, v => v = .str x
  | .tuple ds, v => ∃ a vs, v = .ref a ∧ SqT K H a vs ∧ RepL K H ds vs
  | .list ds, v => ∃ a vs, v = .ref a ∧ SqL K H a vs ∧ RepL K H ds vs
  | .dict _, _ => False
def RepL (K : PySem.W.Frag) (H : Hp) : List PyData → List V → Prop
  | [], vs => vs = []
  | d :: ds, vs => ∃ v r, vs = v :: r ∧ RepD K H d v ∧ RepL K H ds r
end
section
variable {X : Cx} {pins : List (Addr × Obj)} {σ : St} {H : Hp} {s : Shared}
mutual
theorem RepD.reads (I : Inv X pins σ H s) : ∀ (d : PyData) (v : V) (u : Value), RepD X.K H d v → RelV v u → ∃ as, Reads s.heap u d as
  | .none, v, u, h, r => by
    have h : v = .non := h
    subst h; cases r; exact ⟨_, .none⟩
  | .bool b, v, u, h, r => by
    have h : v = .bl b := h
    subst h; cases r; exact ⟨_, .bool b⟩
  | .int i, v, u, h, r => by
    have h : v = .int i := h
    subst h; obtain ⟨t, rfl⟩ := r; exact ⟨_, .int i t⟩
  | .str x, v, u, h, r => by
    have h : v = .str x := h
    subst h; obtain ⟨t, rfl⟩ := r; exact ⟨_, .str x t⟩
  | .tuple ds, v, u, h, r => by
    obtain ⟨a, vs, rfl, hs, hl⟩ := h
    cases r
    obtain ⟨its, rv, ⟨o, ho, hc, n, hd⟩, _⟩ := I.tuple hs
    obtain ⟨as, ra⟩ := RepL.reads I ds vs its hl rv
    exact ⟨_, .tuple ho hc hd (by simpa using ra)⟩
  | .list ds, v, u, h, r => by
    obtain ⟨a, vs, rfl, hs, hl⟩ := h
    cases r
    obtain ⟨its, rv, pl, _⟩ := I.list hs
    obtain ⟨o, ho, hc, n, hd⟩ := pl.isList
    obtain ⟨as, ra⟩ := RepL.reads I ds vs its hl rv
    exact ⟨_, .list ho hc hd (by simpa using ra)⟩
  | .dict _, v, u, h, r => h.elim
theorem RepL.reads (I : Inv X pins σ H s) : ∀ (ds : List PyData) (vs : List V) (us : List Value), RepL X.K H ds vs → Vals vs us → ∃ as, ReadsAll s.heap us ds as
  | [], vs, us, h, r => by
    have h : vs = [] := h
    subst h; cases r; exact ⟨_, .nil⟩
  | d :: ds, vs, us, h, r => by
    obtain ⟨v, t, rfl, hd, ht⟩ := h
    cases r with
    | cons r1 r2 =>
      obtain ⟨as, ra⟩ := RepD.reads I d v _ hd r1
      obtain ⟨bs, rb⟩ := RepL.reads I ds t _ ht r2
      exact ⟨_, .cons ra rb⟩
end
end
section
variable {X : Cx}
def rEqD (K : PySem.W.Frag) (neg : Bool) : R2 := fun x y H Q => ∃ d e, RepD K H d x ∧ RepD K H e y ∧ SeqAt.shaped d = true ∧ SeqAt.shaped e = true ∧ SeqAt.noMix d e = true ∧ Q (.bl (if neg then !Spec.same d e else Spec.same d e)) H
theorem op_neD {k : Nat} (hr : Room k X.A) : OpR X (compareOp .NotEq) (rEqD X.K true) := by
  intro pins s σ H x y v u Q I rx ry h
  obtain ⟨d, e, hd, he, sd, se, mx, q⟩ := h
  obtain ⟨as, ra⟩ := RepD.reads I d x v hd rx
  obtain ⟨bs, rb⟩ := RepD.reads I e y u he ry
  exact ne_dataH_same ra rb sd se hr.units mx ⟨.bl _, H, I, rfl, q⟩
/-! tuples of ints -/
theorem repL_ints {K : PySem.W.Frag} {H : Hp} : ∀ ns : List Int, RepL K H (ns.map PyData.int) (ns.map V.int)
  | [] => rfl
  | n :: r => ⟨_, _, rfl, rfl, repL_ints r⟩
theorem same_ints : ∀ ns ms : List Int, Spec.sameAll (ns.map PyData.int) (ms.map PyData.int) = decide (ns = ms)
  | [], [] => by simp [Spec.sameAll]
  | [], _ :: _ => by simp [Spec.sameAll]
  | _ :: _, [] => by simp [Spec.sameAll]
  | a :: r, b :: t => by
    simp only [List.map_cons, Spec.sameAll, Spec.same, same_ints r t]
    by_cases h : a = b <;> by_cases h' : r = t <;> simp [h, h']
/-! isinstance, all -/
end
end L2
namespace L2
open PySem PySem.Spec PyProof.Rows
/-! ### the rules that name the fragment, with the fragment told: for a comprehension's block -/
section
variable {X : Cx} (K : PySem.W.Frag)
theorem ixtK (hK : X.K = K := by rfl) : IxR X (rIxT K) := by subst hK; exact ix_tup
end
end L2
namespace L2
open PySem PySem.Spec PyProof.Rows
/-! ### texts -/
section
variable {X : Cx} {tg : Expr}
theorem strsAre_of : ∀ {ys : List Str} {us : List Value}, Vals (ys.map V.str) us → StrsAre us ys
  | [], _, r => by
    cases r
    exact .nil
  | y :: ys, _, r => by
    cases r with
    | cons r1 r2 =>
      obtain ⟨t, rfl⟩ := r1
      exact .cons y t (strsAre_of r2)
/-- sep.join(list of texts) -/
def rJoin (K : PySem.W.Frag) : V → List V → Hp → VK → Prop := fun x vs H Q => ∃ (sep : Str) (p : Addr) (ys : List Str), x = .str sep ∧ vs = [.ref p] ∧ SqL K H p (ys.map V.str) ∧ (ys.map (·.length)).sum + ys.length * sep.length ≤ 16777216 ∧ Q (.str (Txt.join sep ys)) H
theorem mt_join : MtR X "str.join" (rJoin X.K) := by
  intro pins s σ H x xs v us Q I rx rs h
  obtain ⟨sep, p, ys, rfl, rfl, hq, hz, q⟩ := h
  obtain ⟨t, rfl⟩ := rx
  obtain ⟨u, rfl, ru⟩ := rs.one
  cases ru
  obtain ⟨its, rv, pl, _⟩ := I.list hq
  exact join_list pl.isList (by simpa using strsAre_of rv) hz fun t' k => ⟨.str _, H, I.tok k, ⟨_, rfl⟩, q⟩
end
end L2
namespace L2
open PySem PySem.Spec PyProof.Rows
theorem iteP {c A B : Prop} [Decidable c] (hc : c) (h : A) : if c then A else B := by rw [if_pos hc]; exact h
theorem iteN {c A B : Prop} [Decidable c] (hc : ¬ c) (h : B) : if c then A else B := by rw [if_neg hc]; exact h
/-! ### list(range(a, b)) -/
def rangeI (lo : Int) (n : Nat) : List Int := (List.range n).map fun (i : Nat) => lo + (i : Int)
theorem rangeI_len (lo : Int) (n : Nat) : (rangeI lo n).length = n := by simp [rangeI]
theorem rangeI_succ (lo : Int) (n : Nat) : rangeI lo (n + 1) = rangeI lo n ++ [lo + n] := by simp [rangeI, List.range_succ]
theorem rangeI_get {lo : Int} {n i : Nat} (h : i < n) : (rangeI lo n)[i]? = some (lo + i) := by
  unfold rangeI
  rw [List.getElem?_map, List.getElem?_range h]
  rfl
theorem mem_rangeI {lo z : Int} {n : Nat} : z ∈ rangeI lo n ↔ lo ≤ z ∧ z < lo + n := by
  unfold rangeI
  rw [List.mem_map]
  constructor
  · rintro ⟨i, hi, rfl⟩
    have := List.mem_range.mp hi
    omega
  · rintro ⟨h1, h2⟩
    exact ⟨(z - lo).toNat, List.mem_range.mpr (by omega), by omega⟩
/-! ### any -/
section
variable {X : Cx}
theorem pgtK {es : List Expr} {k : Nat} {t : TGs} {n : Nat} {pos : Pos} (K : PySem.W.Frag) (hc : X.calm = true) (h : PGs X es t) (hK : X.K = K := by rfl)
    (hn : (assignEach es X.env).length = n := by rfl) (hst : (assignEach es X.env).findIdx? (·.1) = none := by rfl) : PG X (.Tuple es k pos) (gTup K n t) := by subst hK; exact pg_tup hc h hn hst
theorem neDK {k : Nat} (K : PySem.W.Frag) (hr : Room k X.A) (hK : X.K = K := by rfl) : OpR X (compareOp .NotEq) (rEqD K true) := by subst hK; exact op_neD hr
end
/-! ### pairs of ints, as tuples on the heap -/
end L2
namespace L2
open PySem PySem.Spec PyProof.Rows
/-! ### products of great numbers -/
def Below (i : Int) : Prop := -(2 ^ 250) < i ∧ i < 2 ^ 250
def CMulB (i j : Int) : Prop := Below i ∧ Below j
theorem Below.bits {i : Int} (h : Below i) : Builtin.Int.intBits i ≤ 2 ^ 20 := by
  have h1 : i.natAbs < 2 ^ 250 := by
    have := h.1; have := h.2; omega
  exact Nat.le_trans (PyProof.Rows.intBits_le h1) (by decide)
theorem Below.log {i : Int} (h : Below i) : i.natAbs.log2 < 1920 := by
  have h1 : i.natAbs < 2 ^ 250 := by
    have := h.1; have := h.2; omega
  by_cases c : i.natAbs = 0
  · rw [c]; decide
  · exact Nat.lt_of_lt_of_le ((Nat.log2_lt c).mpr h1) (by decide)
theorem op_mulB {X : Cx} : OpR X (binaryOp .Mult) (rI CMulB fun i j => .int (i * j)) := opI fun _ _ _ _ _ _ _ hc q => mul_int q (IntMulOk.of_bits hc.1.bits hc.2.bits)
/-! ### repr of plain data -/
section
variable {X : Cx}
def rRepr (K : PySem.W.Frag) : List V → Hp → VK → Prop := fun xs H Q => ∃ (d : PyData) (p : Addr), xs = [.ref p] ∧ RepD K H d (.ref p) ∧ d.showable = true ∧ d.hasDict = false ∧ d.depth ≤ 64 ∧ d.shown.length ≤ sizeLine ∧ Q (.str d.shown) H
theorem call_reprD {k : Nat} (hr : Room k X.A) : CallR X (.builtin "repr") (rRepr X.K) := by
  intro pins s σ H xs us Q I r h
  obtain ⟨d, p, rfl, hd, hs, hh, hdp, hz, q⟩ := h
  obtain ⟨u, rfl, ru⟩ := vals1 r
  cases ru
  obtain ⟨as, ra⟩ := RepD.reads I d (.ref p) (.ref p) hd rfl
  refine repr_of_reads' ra hs (fun z => by rw [hh] at z; cases z) hr.gd (by have := hr.un; omega) (fun b o e => e) (fun h' u tk hk => ⟨.str _, H, I.kept hk, ⟨_, rfl⟩, q⟩) hz
end
def fracD (a b : Int) : PyData := .tuple [.int a, .int b]
theorem frac_rep {K : PySem.W.Frag} {H : Hp} {p : Addr} {a b : Int} (h : H p = some (.tup [.int a, .int b])) : RepD K H (fracD a b) (.ref p) := ⟨p, _, rfl, SqT.of h, _, _, rfl, rfl, _, _, rfl, rfl, rfl⟩
/-! ### a, b, c = x, y, z with plain local names -/
end L2
namespace L2
open PySem PySem.Spec PyProof.Rows
section
variable {X : Cx} {pins : List (Addr × Obj)} {σ : St} {H : Hp} {s : Shared} {h' : Heap}
/-- records of ours have turned, and a new object is laid -/
theorem Inv.turnedNew {T : Addr} {o : HO} {rs : List Addr} {t' : Nat} (I : Inv X pins σ H s) (hf : ∀ b ∈ rs, FpOk X pins H b) (k : ∀ b u, b ∉ rs → s.heap.get? b = some u → h'.get? b = some u)
    (hp : s.heap.objs.size ≤ T) (new : ObjOk X.prog X.w (upd H T o) h' T o) : Inv X pins σ (upd H T o) { s with heap := h', toks := t' } := by
  have fT : H T = none := I.hok.fresh hp
  have nT : ∀ b u, s.heap.get? b = some u → b ≠ T := fun b u e z => absurd (Heap.lt_size e) (by rw [z]; exact Nat.not_lt.mpr hp)
  have nrs : ∀ b u, H b = some u → b ∉ rs := fun b u e z => by rw [(hf b z).1] at e; cases e
  refine I.step (g' := s.gens) (d' := s.drawn) (ch := rs) (fun b hb => ⟨(hf b hb).2.2.2.1, (hf b hb).2.1, (hf b hb).2.2.2.2.1, (hf b hb).2.2.2.2.2⟩) (fun b u _ _ hc e _ => k b u hc e) (fun b u _ _ hc e _ => ⟨u.slots, k b u hc e⟩)
    (fun b u _ e n => by rw [upd_ne (nT b u e)]; exact n) (fun b u hc e => ⟨u, k b u hc e⟩) (fun b xs e => by rw [upd_ne (ne_of_none e fT)]; exact e) (fun b u v e => by rw [upd_ne (ne_of_none e fT)]; exact e)
    (fun b ps e => ⟨#[], by rw [upd_ne (ne_of_none e fT), e]; simp⟩) (fun m hm => ?_) (fun b u e => ?_) I.bare
  · obtain ⟨u, es, ep, hu, r⟩ := hm
    exact ⟨u, es, ep, k _ u (fun z => (hf _ z).2.1 rfl) hu, r⟩
  · by_cases hb : b = T
    · subst hb
      rw [upd_same] at e
      cases e
      exact new
    · rw [upd_ne hb] at e
      refine (I.hok b u e).stay (fun c v hc q => k c v ?_ q) (fun c q => by rw [upd_ne (ne_of_none q fT)]; exact q) fun c xs q => by rw [upd_ne (ne_of_none q fT)]; exact q
      rcases hc with z | z
      · rw [z]; exact nrs b u e
      · exact nrs c _ z
theorem Inv.turnedL {rs : List Addr} {t' : Nat} (I : Inv X pins σ H s) (hf : ∀ b ∈ rs, FpOk X pins H b) (k : ∀ b u, b ∉ rs → s.heap.get? b = some u → h'.get? b = some u) : Inv X pins σ H { s with heap := h', toks := t' } := by
  have nrs : ∀ b u, H b = some u → b ∉ rs := fun b u e z => by rw [(hf b z).1] at e; cases e
  refine I.step (g' := s.gens) (d' := s.drawn) (ch := rs) (fun b hb => ⟨(hf b hb).2.2.2.1, (hf b hb).2.1, (hf b hb).2.2.2.2.1, (hf b hb).2.2.2.2.2⟩) (fun b u _ _ hc e _ => k b u hc e) (fun b u _ _ hc e _ => ⟨u.slots, k b u hc e⟩)
    (fun b u _ _ n => n) (fun b u hc e => ⟨u, k b u hc e⟩) (fun b xs e => e) (fun b u v e => e) (fun b ps e => ⟨#[], by rw [e]; simp⟩) (fun m hm => ?_) (fun b u e => ?_) I.bare
  · obtain ⟨u, es, ep, hu, r⟩ := hm
    exact ⟨u, es, ep, k _ u (fun z => (hf _ z).2.1 rfl) hu, r⟩
  · refine (I.hok b u e).stay (fun c v hc q => k c v ?_ q) (fun c q => q) fun c xs q => q
    rcases hc with z | z
    · rw [z]; exact nrs b u e
    · exact nrs c _ z
end
/-! ### zip of two tuples of one length: its records stand at n .. n + 4 -/
section
variable {prog : Program} {w : World} {A : Around} {E : Value → Shared → Prop} {s : Shared}
theorem nx_tup {J t : Addr} {i : Nat} {its : Array Value} {v : Value} {Q : Value → Shared → Prop} (a1 : s.heap.IsTupleIter J t i) (a2 : s.heap.IsTuple t its) (a3 : its[i]? = some v)
    (k : ∀ g, g.IsTupleIter J t (i + 1) → Heap.SameBut J s.heap g → Q v { s with heap := g }) : wpAny (model prog w) A (Builtin.SmallTypes.nextOf (.ref J)) Q E s := by
  obtain ⟨oJ, e1, e2, e3⟩ := id a1
  obtain ⟨oT, e4, _, m, e5⟩ := a2
  unfold Builtin.SmallTypes.nextOf
  refine wpAny_bind (wpAny_callSpecial?_slot (name := Str.ofString "__next__") a1.typeIs F.slot_tuple_iterator_next (wpAny_call_entry F.slot_tuple_iterator_next a1.typeIs F.entry_tuple_iterator_next ?_ (F.args_tuple_iterator_next_1 _)))
  show wpAny _ _ (field (.ref J) 0 >>= _) _ _ s
  refine wpAny_bind (wpAny_field e1 e3 (x := .ref t) rfl ?_)
  refine (show wpAny _ _ (if (Value.ref t == Value.none) = true then _ else _) _ _ s from ?_)
  rw [if_neg (show ¬ ((Value.ref t == Value.none) = true) by exact Bool.false_ne_true)]
  show wpAny _ _ (field (.ref J) 1 >>= _) _ _ s
  refine wpAny_bind (wpAny_field e1 e3 (x := .int i 0) rfl ?_)
  refine (show wpAny _ _ (seqItems? (.ref t) >>= _) _ _ s from wpAny_bind (wpAny_seqItems e4 e5 ?_))
  simp only [Int.toNat_natCast, a3]
  refine wpAny_bind (wpAny_setField e1 e3 (by simp) (wpAny_pure ⟨v, rfl, wpAny_pure (k _ ?_ (Heap.SameBut.update ..))⟩))
  exact ⟨_, Heap.get?_update_self _ e1 (Obj.isFreed_of_fields (Obj.data_mapFields e3 _)), (Obj.cls_mapFields ..).trans e2, by rw [Obj.data_mapFields e3]; simp [rawInt]⟩
theorem nx_tup_end {J t : Addr} {i : Nat} {its : Array Value} {Q : Value → Shared → Prop} (hh : A.handled = none) (a1 : s.heap.IsTupleIter J t i) (a2 : s.heap.IsTuple t its) (a3 : its[i]? = none)
    (k : ∀ g e, Heap.ExtBut J s.heap g → (∃ o, g.get? e = some o ∧ o.cls = .type "StopIteration") → E (.ref e) { s with heap := g }) : wpAny (model prog w) A (Builtin.SmallTypes.nextOf (.ref J)) Q E s := by
  obtain ⟨oJ, e1, e2, e3⟩ := id a1
  obtain ⟨oT, e4, _, m, e5⟩ := a2
  unfold Builtin.SmallTypes.nextOf
  refine wpAny_bind (wpAny_callSpecial?_slot (name := Str.ofString "__next__") a1.typeIs F.slot_tuple_iterator_next (wpAny_call_entry F.slot_tuple_iterator_next a1.typeIs F.entry_tuple_iterator_next ?_ (F.args_tuple_iterator_next_1 _)))
  show wpAny _ _ (field (.ref J) 0 >>= _) _ _ s
  refine wpAny_bind (wpAny_field e1 e3 (x := .ref t) rfl ?_)
  refine (show wpAny _ _ (if (Value.ref t == Value.none) = true then _ else _) _ _ s from ?_)
  rw [if_neg (show ¬ ((Value.ref t == Value.none) = true) by exact Bool.false_ne_true)]
  show wpAny _ _ (field (.ref J) 1 >>= _) _ _ s
  refine wpAny_bind (wpAny_field e1 e3 (x := .int i 0) rfl ?_)
  refine (show wpAny _ _ (seqItems? (.ref t) >>= _) _ _ s from wpAny_bind (wpAny_seqItems e4 e5 ?_))
  simp only [Int.toNat_natCast, a3]
  refine wpAny_bind (wpAny_rule (wpAny_bind (wpAny_setField e1 e3 (by simp) ?_)))
  refine (show wpAny _ _ (newExc (.type "StopIteration") [] >>= _) _ _ _ from wpAny_bind ?_)
  simp only [newExc, newTuple]
  refine wpAny_bind (wpAny_newObj_type ?_ (by size_fits))
  refine wpAny_bind (m := firstArgMember _ _) (wpAny_of_eq (a := Value.none) (by first | exact rfl | (simp only [firstArgMember]; rfl)) ?_)
  refine wpAny_newObj_type ?_ (by size_fits)
  simp only [raiseNew]
  refine wpAny_bind (wpAny_handled ?_)
  first | rw [hh] | rw [show A.in1.handled = none from hh]
  refine wpAny_bind (wpAny_pure (wpAny_throw ?_))
  exact k _ _ (((Heap.SameBut.update ..).extBut.push _).push _) ⟨_, Heap.get?_push_size _ rfl, rfl⟩
/-- the records of a zip over the tuples at l1, l2, i taken -/
structure ZipAt (g : Heap) (n l1 l2 : Addr) (i : Nat) : Prop where
  z : IsZip g (n + 4) (n + 2) (n + 3) .none
  I : IsPair g (n + 2) (.ref n) (.ref (n + 1))
  O : ∃ a b, IsPair g (n + 3) a b
  i1 : g.IsTupleIter n l1 i
  i2 : g.IsTupleIter (n + 1) l2 i
theorem zip_take {n l1 l2 : Addr} {i : Nat} {xs ys : Array Value} {x y : Value} {Q : Option Value → Shared → Prop} (o1 : ∀ j, j < 5 → l1 ≠ n + j) (o2 : ∀ j, j < 5 → l2 ≠ n + j) (Z : ZipAt s.heap n l1 l2 i)
    (t1 : s.heap.IsTuple l1 xs) (t2 : s.heap.IsTuple l2 ys) (ex : xs[i]? = some x) (ey : ys[i]? = some y)
    (k : ∀ g, IsZip g (n + 4) (n + 2) (n + 3) (rawInt s.heap.objs.size) → IsPair g (n + 3) x y → g.IsTupleIter n l1 (i + 1) → g.IsTupleIter (n + 1) l2 (i + 1) → IsPair g s.heap.objs.size x y →
      (∀ c o, c ≠ n + 4 → c ≠ n + 3 → c ≠ n → c ≠ n + 1 → s.heap.get? c = some o → g.get? c = some o) → Q (some (.ref s.heap.objs.size)) { s with heap := g }) :
    wpAny (model prog w) A (pyNext (.ref (n + 4))) Q E s := by
  obtain ⟨hz, hI, ⟨a, b, hO⟩, h1, h2⟩ := Z
  have d0 : n ≠ n + 4 ∧ n + 1 ≠ n + 4 ∧ n + 2 ≠ n + 4 ∧ n + 3 ≠ n + 4 ∧ n + 3 ≠ n ∧ n + 3 ≠ n + 1 ∧ n + 1 ≠ n := by refine ⟨?_, ?_, ?_, ?_, ?_, ?_, ?_⟩ <;> (intro z; exact absurd z (by simp))
  obtain ⟨d1, d2, d3, d4, d5, d6, d7⟩ := d0
  have l10 := o1 0 (by decide); have l11 := o1 1 (by decide); have l13 := o1 3 (by decide); have l14 := o1 4 (by decide)
  have l20 := o2 0 (by decide); have l21 := o2 1 (by decide); have l23 := o2 3 (by decide); have l24 := o2 4 (by decide)
  have hT : s.TypeIs (.ref (n + 4)) "zip" := ⟨_, hz, rfl⟩
  unfold pyNext
  refine wpAny_bind (wpAny_attempt (wpAny_callSpecial?_slot (name := Str.ofString "__next__") hT F.slot_zip_next (wpAny_call_entry F.slot_zip_next hT F.entry_zip_next ?_ (F.args_zip_next_1 _))))
  refine (show wpAny _ _ (field (.ref (n + 4)) 2 >>= _) _ _ _ from wpAny_bind (wpAny_field hz rfl (x := .bool false) rfl ?_))
  refine (show wpAny _ _ (field (.ref (n + 4)) 3 >>= _) _ _ _ from wpAny_bind (wpAny_field hz rfl (x := .ref (n + 2)) rfl ?_))
  refine wpAny_bind (wpAny_seqItems hI rfl ?_)
  refine (show wpAny _ _ (Builtin.SmallTypes.ownedTupleIsFree (.ref (n + 4)) >>= _) _ _ _ from wpAny_bind ?_)
  unfold Builtin.SmallTypes.ownedTupleIsFree
  refine wpAny_bind (wpAny_field hz rfl (x := .none) rfl (wpAny_pure ?_))
  simp only [if_true]
  refine wpAny_bind (wpAny_rule (wpAny_bind (wpAny_field hz rfl (x := .ref (n + 3)) rfl (wpAny_bind (wpAny_setField_rec hz (by simp) fun g1 z1 s1 => ?_)))))
  have z1 : IsZip g1 (n + 4) (n + 2) (n + 3) .ellipsis := z1
  refine wpAny_bind ?_
  simp only [List.zipIdx_cons, List.zipIdx_nil, List.forIn_cons, List.forIn_nil]
  -- the first
  refine wpAny_bind (wpAny_bind (wpAny_onRaise (show wpAny _ _ (Builtin.SmallTypes.nextOf (.ref n) >>= _) _ _ _ from wpAny_bind (nx_tup (h1.at fun o e => s1.extBut _ _ d1 e) (t1.at fun o e => s1.extBut _ _ l14 e) ex fun g2 j2 s2 => wpAny_pure ?_))))
  have O2 : IsPair g2 (n + 3) a b := s2.extBut _ _ d5 (s1.extBut _ _ d4 hO)
  refine wpAny_bind (wpAny_seqItems O2 rfl (wpAny_bind (wpAny_updateSeq_pair O2 fun g3 O3 s3 => ?_)))
  have O3 : IsPair g3 (n + 3) x b := O3
  refine wpAny_bind (wpAny_letGo (wpAny_pure ?_))
  -- the second
  refine wpAny_bind (wpAny_bind (wpAny_onRaise (show wpAny _ _ (Builtin.SmallTypes.nextOf (.ref (n + 1)) >>= _) _ _ _ from wpAny_bind (nx_tup (h2.at fun o e => s3.extBut _ _ d6.symm (s2.extBut _ _ d7 (s1.extBut _ _ d2 e))) (t2.at fun o e => s3.extBut _ _ l23 (s2.extBut _ _ l20 (s1.extBut _ _ l24 e))) ey fun g4 j4 s4 => wpAny_pure ?_))))
  have O4 : IsPair g4 (n + 3) x b := s4.extBut _ _ d6 O3
  refine wpAny_bind (wpAny_seqItems O4 rfl (wpAny_bind (wpAny_updateSeq_pair O4 fun g5 O5 s5 => ?_)))
  have O5 : IsPair g5 (n + 3) x y := O5
  refine wpAny_bind (wpAny_letGo (wpAny_pure (wpAny_pure ?_)))
  -- the pair
  refine wpAny_bind (wpAny_seqItems O5 rfl (wpAny_bind (wpAny_newTuple ?_)))
  have sz : g5.objs.size = s.heap.objs.size := by rw [s5.1, s4.1, s3.1, s2.1, s1.1]
  have z5 : IsZip g5 (n + 4) (n + 2) (n + 3) .ellipsis := s5.extBut _ _ d4.symm (s4.extBut _ _ d2.symm (s3.extBut _ _ d4.symm (s2.extBut _ _ d1.symm z1)))
  have k5 : ∀ c o, c ≠ n + 4 → c ≠ n + 3 → c ≠ n → c ≠ n + 1 → s.heap.get? c = some o → g5.get? c = some o := fun c o c1 c2 c3 c4 e => s5.extBut _ _ c2 (s4.extBut _ _ c4 (s3.extBut _ _ c2 (s2.extBut _ _ c3 (s1.extBut _ _ c1 e))))
  have j5 : g5.IsTupleIter n l1 (i + 1) := j2.at fun o e => s5.extBut _ _ d5.symm (s4.extBut _ _ d7.symm (s3.extBut _ _ d5.symm e))
  have m5 : g5.IsTupleIter (n + 1) l2 (i + 1) := j4.at fun o e => s5.extBut _ _ d6.symm e
  have zlt : n + 4 < g5.objs.size := Heap.lt_size z5
  refine (show wpAny _ _ (Builtin.SmallTypes.ownedTupleHandOut (.ref (n + 4)) (.ref g5.objs.size) >>= _) _ _ _ from wpAny_bind ?_)
  unfold Builtin.SmallTypes.ownedTupleHandOut
  have z6 : IsZip (g5.push { cls := .type "tuple", data := .seq #[x, y] }) (n + 4) (n + 2) (n + 3) .ellipsis := Heap.get?_push_of_some _ z5
  refine wpAny_bind (wpAny_setField_rec z6 (by simp) fun g7 z7 s7 => ?_)
  have z7 : IsZip g7 (n + 4) (n + 2) (n + 3) (rawInt g5.objs.size) := z7
  refine wpAny_setField_rec z7 (by simp) fun g8 z8 s8 => ?_
  have z8 : IsZip g8 (n + 4) (n + 2) (n + 3) (rawInt g5.objs.size) := z8
  have up : ∀ c o, c ≠ n + 4 → g5.get? c = some o → g8.get? c = some o := fun c o c1 e => s8.extBut _ _ c1 (s7.extBut _ _ c1 (Heap.get?_push_of_some _ e))
  have T8 : IsPair g8 g5.objs.size x y := s8.extBut _ _ (Nat.ne_of_gt zlt) (s7.extBut _ _ (Nat.ne_of_gt zlt) (Heap.get?_push_size _ rfl))
  rw [sz] at z8 T8
  refine wpAny_pure ⟨_, rfl, wpAny_pure ?_⟩
  refine (show Q (some (.ref g5.objs.size)) _ from ?_)
  rw [sz]
  exact k g8 z8 (up _ _ d4 O5) (j5.at fun o e => up _ o d1 e) (m5.at fun o e => up _ o d2 e) T8 fun c o c1 c2 c3 c4 e => up c o c1 (k5 c o c1 c2 c3 c4 e)
theorem zip_stop {n l1 l2 : Addr} {i : Nat} {xs : Array Value} {Q : Option Value → Shared → Prop} (hh : A.handled = none) (o1 : ∀ j, j < 5 → l1 ≠ n + j) (Z : ZipAt s.heap n l1 l2 i)
    (t1 : s.heap.IsTuple l1 xs) (ex : xs[i]? = none)
    (k : ∀ g, (∀ c o, c ≠ n + 4 → c ≠ n → s.heap.get? c = some o → g.get? c = some o) → Q none { s with heap := g }) : wpAny (model prog w) A (pyNext (.ref (n + 4))) Q E s := by
  obtain ⟨hz, hI, ⟨a, b, hO⟩, h1, h2⟩ := Z
  have d1 : n ≠ n + 4 := by intro z; exact absurd z (by simp)
  have l14 := o1 4 (by decide)
  have hT : s.TypeIs (.ref (n + 4)) "zip" := ⟨_, hz, rfl⟩
  unfold pyNext
  refine wpAny_bind (wpAny_attempt (wpAny_callSpecial?_slot (name := Str.ofString "__next__") hT F.slot_zip_next (wpAny_call_entry F.slot_zip_next hT F.entry_zip_next ?_ (F.args_zip_next_1 _))))
  refine (show wpAny _ _ (field (.ref (n + 4)) 2 >>= _) _ _ _ from wpAny_bind (wpAny_field hz rfl (x := .bool false) rfl ?_))
  refine (show wpAny _ _ (field (.ref (n + 4)) 3 >>= _) _ _ _ from wpAny_bind (wpAny_field hz rfl (x := .ref (n + 2)) rfl ?_))
  refine wpAny_bind (wpAny_seqItems hI rfl ?_)
  refine (show wpAny _ _ (Builtin.SmallTypes.ownedTupleIsFree (.ref (n + 4)) >>= _) _ _ _ from wpAny_bind ?_)
  unfold Builtin.SmallTypes.ownedTupleIsFree
  refine wpAny_bind (wpAny_field hz rfl (x := .none) rfl (wpAny_pure ?_))
  simp only [if_true]
  refine wpAny_bind (wpAny_rule (wpAny_bind (wpAny_field hz rfl (x := .ref (n + 3)) rfl (wpAny_bind (wpAny_setField_rec hz (by simp) fun g1 z1 s1 => ?_)))))
  have z1 : IsZip g1 (n + 4) (n + 2) (n + 3) .ellipsis := z1
  refine wpAny_bind ?_
  simp only [List.zipIdx_cons, List.zipIdx_nil, List.forIn_cons, List.forIn_nil]
  refine wpAny_bind (wpAny_bind (wpAny_onRaise (show wpAny _ _ (Builtin.SmallTypes.nextOf (.ref n) >>= _) _ _ _ from wpAny_bind (nx_tup_end hh (h1.at fun o e => s1.extBut _ _ d1 e) (t1.at fun o e => s1.extBut _ _ l14 e) ex fun g2 e s2 he => ?_))))
  obtain ⟨oe, hoe, hce⟩ := he
  have z2 : IsZip g2 (n + 4) (n + 2) (n + 3) .ellipsis := s2 _ _ d1.symm z1
  have ez : e ≠ n + 4 := fun q => by subst q; rw [z2] at hoe; cases hoe; simp at hce
  refine wpAny_setField_rec z2 (by simp) fun g3 _ s3 => ?_
  refine wpAny_bind (wpAny_isInstance (T := "StopIteration") (b := true) ⟨oe, s3.extBut _ _ ez hoe, hce⟩ isSubtype_stop ?_)
  exact wpAny_pure (k _ fun c o c1 c2 q => s3.extBut _ _ c1 (s2 _ _ c2 (s1.extBut _ _ c1 q)))
end
end L2
namespace L2
open PySem PySem.Spec PyProof.Rows
abbrev zA (g : Heap) (l1 : Addr) : Heap := g.push { cls := .type "tuple_iterator", data := .fields #[.ref l1, .int 0 0] }
abbrev zB (g : Heap) (l1 l2 : Addr) : Heap := (zA g l1).push { cls := .type "tuple_iterator", data := .fields #[.ref l2, .int 0 0] }
abbrev zC (g : Heap) (l1 l2 : Addr) : Heap := (zB g l1 l2).push { cls := .type "tuple", data := .seq #[.ref g.objs.size, .ref (zA g l1).objs.size] }
abbrev zD (g : Heap) (l1 l2 : Addr) : Heap := (zC g l1 l2).push { cls := .type "tuple", data := .seq #[.none, .none] }
abbrev zE (g : Heap) (l1 l2 : Addr) : Heap := (zD g l1 l2).push { cls := .type "zip", data := .fields #[.none, .bool false, .bool false, .ref (zB g l1 l2).objs.size, .ref (zC g l1 l2).objs.size] }
theorem zip_new (l1 l2 : Addr) (xs ys : Array Value) : Meets (Builtin.«zip.__new__» ⟨[.type "zip", .ref l1, .ref l2], []⟩) (fun _ R s => s.heap.IsTuple l1 xs ∧ s.heap.IsTuple l2 ys ∧
      R (.ok (.ret (.ref (zD s.heap l1 l2).objs.size))) { s with heap := zE s.heap l1 l2 }) :=
  .of_wp fun prog w A R s h => by
    obtain ⟨q, g, d, tk, os⟩ := s; obtain ⟨t1, t2, h⟩ := h
    have hS := PySem.sub_zip
    have T1 : Heap.IsTuple (Shared.heap ⟨q, g, d, tk, os⟩) l1 xs := t1
    have T2 : Heap.IsTuple (Shared.heap ⟨q.push { cls := .type "tuple_iterator", data := .fields #[.ref l1, .int 0 0] }, g, d, tk, os⟩) l2 ys := t2.at fun o e => Heap.get?_push_of_some _ e
    wp_walk using wpAny_pyIter_tuple T1, wpAny_pyIter_tuple T2
    exact ⟨_, rfl, h⟩
section
variable {prog : Program} {w : World} {A : Around} {E : Value → Shared → Prop} {s : Shared}
theorem call_zipT {l1 l2 : Addr} {xs ys : Array Value} {Q : Value → Shared → Prop} (t1 : s.heap.IsTuple l1 xs) (t2 : s.heap.IsTuple l2 ys)
    (k : ∀ g, ZipAt g s.heap.objs.size l1 l2 0 → (∀ c o, s.heap.get? c = some o → g.get? c = some o) → Q (.ref (s.heap.objs.size + 4)) { s with heap := g }) :
    wpAny (model prog w) A (call (.type "zip") [.ref l1, .ref l2]) Q E s := by
  refine callType_new F.called_zip (by decide) (F.typeCall_zip_2 _ _) (F.newCall_zip_2 _ _) (fun obj => F.args_object_init_3 obj _ _) F.entry_zip_new (zip_new l1 l2 xs ys) ⟨t1, t2, ?_⟩
  have n1 : (zA s.heap l1).objs.size = s.heap.objs.size + 1 := by rw [Heap.size_push]
  have n2 : (zB s.heap l1 l2).objs.size = s.heap.objs.size + 2 := by rw [Heap.size_push, n1]
  have n3 : (zC s.heap l1 l2).objs.size = s.heap.objs.size + 3 := by rw [Heap.size_push, n2]
  have n4 : (zD s.heap l1 l2).objs.size = s.heap.objs.size + 4 := by rw [Heap.size_push, n3]
  have b5 : (zE s.heap l1 l2).get? (zD s.heap l1 l2).objs.size = some _ := Heap.get?_push_size _ rfl
  have b4 : (zE s.heap l1 l2).get? (zC s.heap l1 l2).objs.size = some _ := Heap.get?_push_of_some _ (Heap.get?_push_size _ rfl)
  have b3 : (zE s.heap l1 l2).get? (zB s.heap l1 l2).objs.size = some _ := Heap.get?_push_of_some _ (Heap.get?_push_of_some _ (Heap.get?_push_size _ rfl))
  have b2 : (zE s.heap l1 l2).get? (zA s.heap l1).objs.size = some _ := Heap.get?_push_of_some _ (Heap.get?_push_of_some _ (Heap.get?_push_of_some _ (Heap.get?_push_size _ rfl)))
  have b1 : (zE s.heap l1 l2).get? s.heap.objs.size = some _ := Heap.get?_push_of_some _ (Heap.get?_push_of_some _ (Heap.get?_push_of_some _ (Heap.get?_push_of_some _ (Heap.get?_push_size _ rfl))))
  show _ ∧ _
  rw [n2, n3, n4] at b5
  rw [n1, n2] at b3
  rw [n3] at b4
  rw [n1] at b2
  rw [n4]
  exact ⟨⟨_, b5, rfl⟩, k _ ⟨b5, b3, ⟨_, _, b4⟩, ⟨_, b1, rfl, rfl⟩, ⟨_, b2, rfl, rfl⟩⟩ fun c o q => Heap.get?_push_of_some _ (Heap.get?_push_of_some _ (Heap.get?_push_of_some _ (Heap.get?_push_of_some _ (Heap.get?_push_of_some _ q))))⟩
end
/-! ### the walk over a zip of two tuples of one length -/
def Itz (K : PySem.W.Frag) (a b : Addr) : It :=
  ⟨fun i H => ∃ xs ys, SqT K H a xs ∧ SqT K H b ys ∧ xs.length = ys.length ∧ i < xs.length,
   fun i H x H' => ∃ t, H t = none ∧ x = .ref t ∧ ∀ xs ys, SqT K H a xs → SqT K H b ys → ∃ u v, xs[i]? = some u ∧ ys[i]? = some v ∧ H' = upd H t (.tup [u, v]),
   fun i H => ∃ xs, SqT K H a xs ∧ xs.length ≤ i⟩
theorem turn_zip {P : Program} {w : World} {K : PySem.W.Frag} {elts : List Expr} {x1 : Nat} {pos : Pos} (a b n : Addr) (ha : a < n) (hb : b < n) :
    Turn P w K (.Tuple elts x1 pos) (Itz K a b) [n, n + 1, n + 2, n + 3, n + 4] (n + 4) (fun i h => ZipAt h n a b i) where
  mem := by simp
  obj := fun i h Z c hc => by
    obtain ⟨hz, hI, ⟨u, v, hO⟩, ⟨o1, e1, c1, d1⟩, ⟨o2, e2, c2, d2⟩⟩ := Z
    simp only [List.mem_cons, List.not_mem_nil, or_false] at hc
    rcases hc with rfl | rfl | rfl | rfl | rfl
    · exact ⟨_, e1, fun v z => by rw [d1] at z; cases z⟩
    · exact ⟨_, e2, fun v z => by rw [d2] at z; cases z⟩
    · exact ⟨_, hI, fun v z => by cases z⟩
    · exact ⟨_, hO, fun v z => by cases z⟩
    · exact ⟨_, hz, fun v z => by cases z⟩
  keep := fun i h h' Z k => ⟨k _ (by simp) _ Z.z, k _ (by simp) _ Z.I, let ⟨u, v, q⟩ := Z.O; ⟨u, v, k _ (by simp) _ q⟩, Z.i1.at fun o e => k _ (by simp) o e, Z.i2.at fun o e => k _ (by simp) o e⟩
  item := by
    intro X hP hw hK hc i pins s σ H E I hf Z hg
    subst hP hw hK
    obtain ⟨xs, ys, q1, q2, hl, hi⟩ := hg
    obtain ⟨is1, r1, p1, _⟩ := I.tuple q1
    obtain ⟨is2, r2, p2, _⟩ := I.tuple q2
    obtain ⟨u, hu, ru⟩ := r1.get (i := i) (x := xs[i]) (by simp [hi])
    obtain ⟨v, hv, rv⟩ := r2.get (i := i) (x := ys[i]'(by omega)) (by simp [show i < ys.length by omega])
    refine zip_take (fun j _ => Nat.ne_of_lt (Nat.lt_of_lt_of_le ha (Nat.le_add_right ..))) (fun j _ => Nat.ne_of_lt (Nat.lt_of_lt_of_le hb (Nat.le_add_right ..))) Z (show s.heap.IsTuple a is1.toArray from p1) (show s.heap.IsTuple b is2.toArray from p2)
      (x := u) (y := v) (by simpa using hu) (by simpa using hv) fun g z1 O1 j1 m1 T1 k1 => ⟨_, rfl, wpAny_letOwnedTupleGo_zip z1 fun g2 z2 sb => ?_⟩
    have nT : s.heap.objs.size ≠ n + 4 := Nat.ne_of_gt (Heap.lt_size Z.z)
    have kk : ∀ c o, c ∉ [n, n + 1, n + 2, n + 3, n + 4] → s.heap.get? c = some o → g2.get? c = some o := fun c o hc e => by
      simp only [List.mem_cons, List.not_mem_nil, or_false, not_or] at hc
      exact (sb.2 c hc.2.2.2.2).trans (k1 c o hc.2.2.2.2 hc.2.2.2.1 hc.1 hc.2.1 e)
    have TT : IsPair g2 s.heap.objs.size u v := (sb.2 _ nT).trans T1
    have d : ∀ j, j < 4 → n + j ≠ n + 4 := fun j hj z => absurd (Nat.add_left_cancel z) (Nat.ne_of_lt hj)
    have I2 := I.turnedNew (T := s.heap.objs.size) (o := .tup [xs[i], ys[i]'(by omega)]) (rs := [n, n + 1, n + 2, n + 3, n + 4]) (t' := s.toks) hf kk (Nat.le_refl _) ⟨by show 2 ≤ sizeLine; decide, [u, v], .cons ru (.cons rv .nil), ⟨_, TT, rfl, _, rfl⟩⟩
    refine ⟨.ref s.heap.objs.size, _, I2, rfl, ⟨_, I.fresh, rfl, fun xs' ys' w1 w2 => ⟨xs[i], ys[i]'(by omega), ?_, ?_, rfl⟩⟩, ⟨z2, (sb.2 _ (d 2 (by decide))).trans (k1 _ _ (d 2 (by decide)) (by simp) (by simp) (by simp) Z.I), ⟨u, v, (sb.2 _ (d 3 (by decide))).trans O1⟩, j1.at fun o e => (sb.2 _ (d 0 (by decide))).trans e, m1.at fun o e => (sb.2 _ (d 1 (by decide))).trans e⟩, fun c hc => ?_⟩
    · rw [I.tuple_inj w1 q1]; simp [hi]
    · rw [I.tuple_inj w2 q2]; simp [show i < ys.length by omega]
    · rw [upd_ne (fun z => ?_)]
      · exact (hf c hc).1
      · obtain ⟨o, e, _⟩ : ∃ o, s.heap.get? c = some o ∧ True := by
          obtain ⟨hz, hI, ⟨u', v', hO⟩, ⟨o1, e1, c1, d1⟩, ⟨o2, e2, c2, d2⟩⟩ := Z
          simp only [List.mem_cons, List.not_mem_nil, or_false] at hc
          rcases hc with rfl | rfl | rfl | rfl | rfl
          · exact ⟨_, e1, trivial⟩
          · exact ⟨_, e2, trivial⟩
          · exact ⟨_, hI, trivial⟩
          · exact ⟨_, hO, trivial⟩
          · exact ⟨_, hz, trivial⟩
        exact absurd (Heap.lt_size e) (by rw [z]; exact Nat.lt_irrefl _)
  done := by
    intro X hP hw hK hc i pins s σ H E I hf Z hg
    subst hP hw hK
    obtain ⟨xs, q1, hx⟩ := hg
    obtain ⟨is1, r1, p1, _⟩ := I.tuple q1
    have hl := r1.length
    refine zip_stop (I.ok.hd hc) (fun j _ => Nat.ne_of_lt (Nat.lt_of_lt_of_le ha (Nat.le_add_right ..))) Z (show s.heap.IsTuple a is1.toArray from p1) (by simp; omega) fun g k => ⟨rfl, I.turnedL (rs := [n, n + 1, n + 2, n + 3, n + 4]) (t' := s.toks) hf fun c o hc e => ?_⟩
    simp only [List.mem_cons, List.not_mem_nil, or_false, not_or] at hc
    exact k c o hc.2.2.2.2 hc.1 e
  self := fun _ _ _ _ _ Z h => wpAny_pyIter_zip Z.z h
def iZip (K : PySem.W.Frag) (ta : TA) : TI := fun σ H R => ta σ H fun vs H1 => ∃ a b, vs = [.ref a, .ref b] ∧ (∃ xs, SqT K H1 a xs) ∧ (∃ ys, SqT K H1 b ys) ∧ R (Itz K a b) H1
theorem pi_zip {X : Cx} {a b : Expr} {ta : TA} {p pos : Pos} {elts : List Expr} {x1 : Nat} {tpos : Pos} (hg : Gl X "zip") (hm : X.mg "zip" = none) (ha : PA X [a, b] ta) (hs : starEach [a, b] X.env = [(false, eval a X.env), (false, eval b X.env)] := by rfl) (hs2 : starEach [b] X.env = [(false, eval b X.env)] := by rfl) :
    PI X (.Tuple elts x1 tpos) (.Call (.Name "zip" p) [a, b] [] pos) (iZip X.K ta) := by
  intro pins s σ H R I h
  refine wpAny_Call_Name_kw (ld_blt I hg hm PyProof.Rows.boot_zip (PyProof.Rows.callWith_type1 (thn (ha pos pins s σ H _ I h) fun us s1 ⟨vs, H1, I1, r1, q1⟩ => ?_) (by rw [hs, hs2]) (by rw [hs2]; rfl)))
  obtain ⟨a', b', rfl, ⟨xs, q1⟩, ⟨ys, q2⟩, q⟩ := q1
  obtain ⟨u, v, rfl, ru, rv⟩ := vals2 r1
  cases ru
  cases rv
  obtain ⟨is1, _, p1, _⟩ := I1.tuple q1
  obtain ⟨is2, _, p2, _⟩ := I1.tuple q2
  have la : a' < s1.heap.objs.size := by obtain ⟨o, e, _⟩ := p1; exact Heap.lt_size e
  have lb : b' < s1.heap.objs.size := by obtain ⟨o, e, _⟩ := p2; exact Heap.lt_size e
  refine call_zipT (show s1.heap.IsTuple a' is1.toArray from p1) (show s1.heap.IsTuple b' is2.toArray from p2) fun g Z k => wpAny_pyIter_zip Z.z ?_
  have I2 : Inv X pins σ H1 { s1 with heap := g } := I1.kept (t' := s1.toks) k
  refine ⟨s1.heap.objs.size + 4, _, _, Itz X.K a' b', H1, rfl, I2, turn_zip a' b' s1.heap.objs.size la lb, Z, fun c hc => ?_, q⟩
  have hge : s1.heap.objs.size ≤ c := by
    simp only [List.mem_cons, List.not_mem_nil, or_false] at hc
    rcases hc with rfl | rfl | rfl | rfl | rfl
    · exact Nat.le_refl _
    all_goals exact Nat.le_add_right ..
  exact I1.fpOk hge (I1.hok.fresh hge)
section
variable {g : TG} {tc : TT} {te : TE}
theorem comp_zip {K : PySem.W.Frag} {a b : Addr} {xs ys : List V} {Kf : List V → Hp → Prop} {σ0 : St} {H1 : Hp} (Pv : Nat → List V → St → Hp → Prop) (hz : xs.length < sizeLine) (hxy : xs.length = ys.length) (h0 : Pv 0 [] σ0 H1) (hb : ∀ i zs σ H, Pv i zs σ H → zs.length ≤ i)
    (hl : ∀ i zs σ H, i ≤ xs.length → Pv i zs σ H → SqT K H a xs ∧ SqT K H b ys)
    (hs : ∀ i x y zs σ H t, xs[i]? = some x → ys[i]? = some y → Pv i zs σ H → H t = none → g (.ref t) σ (upd H t (.tup [x, y])) fun σ2 H2 => tc σ2 H2 fun b H3 => if b = true then te σ2 H3 fun v H4 => Pv (i + 1) (zs ++ [v]) σ2 H4 else Pv (i + 1) zs σ2 H3)
    (hd : ∀ zs σ H, Pv xs.length zs σ H → Kf zs H) : CompW (Itz K a b) g tc te Kf σ0 H1 := by
  refine ⟨fun i m zs σ H => m = xs.length - i ∧ i ≤ xs.length ∧ Pv i zs σ H, ⟨xs.length, by simp, Nat.zero_le _, h0⟩, ?_⟩
  rintro i m zs σ H ⟨rfl, hi, p⟩
  obtain ⟨q1, q2⟩ := hl i zs σ H hi p
  refine ⟨Nat.lt_of_le_of_lt (hb _ _ _ _ p) (Nat.lt_of_le_of_lt hi hz), ?_⟩
  by_cases hlt : i < xs.length
  · refine .inr ⟨⟨xs, ys, q1, q2, hxy, hlt⟩, Pv (i + 1), fun zs' σ' H' p' => ⟨xs.length - (i + 1), by omega, rfl, hlt, p'⟩, fun x H' y => ?_⟩
    obtain ⟨t, ht, rfl, w⟩ := y
    obtain ⟨u, v, e1, e2, rfl⟩ := w xs ys q1 q2
    exact hs i u v zs σ H t e1 e2 p ht
  · have e : i = xs.length := by omega
    subst e
    exact .inl ⟨⟨xs, q1, Nat.le_refl _⟩, hd zs σ H p⟩
end
end L2
namespace L2
open PySem PySem.Spec PyProof.Rows
/-! ### enumerate of a list, walked -/
def Ite (K : PySem.W.Frag) (a : Addr) : It :=
  ⟨fun i H => ∃ xs x, SqL K H a xs ∧ xs[i]? = some x,
   fun i H x H' => ∃ t, H t = none ∧ x = .ref t ∧ ∀ xs, SqL K H a xs → ∃ u, xs[i]? = some u ∧ H' = upd H t (.tup [.int i, u]),
   fun i H => ∃ xs, SqL K H a xs ∧ xs.length ≤ i⟩
theorem turn_enum {P : Program} {w : World} {K : PySem.W.Frag} {elts : List Expr} {x1 : Nat} {pos : Pos} (a n : Addr) :
    Turn P w K (.Tuple elts x1 pos) (Ite K a) [n, n + 1] (n + 1) (fun i h => (∃ old, IsEnum h (n + 1) n i old) ∧ h.IsListIter n a i) where
  mem := by simp
  obj := fun i h Z c hc => by
    obtain ⟨⟨old, he⟩, ⟨o1, e1, c1, d1⟩⟩ := Z
    simp only [List.mem_cons, List.not_mem_nil, or_false] at hc
    rcases hc with rfl | rfl
    · exact ⟨_, e1, fun v z => by rw [d1] at z; cases z⟩
    · exact ⟨_, he, fun v z => by cases z⟩
  keep := fun i h h' Z k => ⟨let ⟨old, he⟩ := Z.1; ⟨old, k _ (by simp) _ he⟩, Z.2.at fun o e => k _ (by simp) o e⟩
  item := by
    intro X hP hw hK hc i pins s σ H E I hf Z hg
    subst hP hw hK
    obtain ⟨xs, x, q1, hx⟩ := hg
    obtain ⟨its, rv, pl, _⟩ := I.list q1
    obtain ⟨u, hu, ru⟩ := rv.get hx
    obtain ⟨⟨old, he⟩, hit⟩ := Z
    have d0 : n + 1 ≠ n := Nat.succ_ne_self n
    refine wpAny_pyNext_enum_item he hit pl.isList (x := u) (by simpa using hu) d0 fun g z1 j1 T1 _ k1 => ⟨_, rfl, wpAny_letOwnedTupleGo_enum z1 fun g2 z2 sb => ?_⟩
    have nT : s.heap.objs.size ≠ n + 1 := Nat.ne_of_gt (Heap.lt_size he)
    have lt : ∀ c ∈ [n, n + 1], c < s.heap.objs.size := fun c hc => by
      simp only [List.mem_cons, List.not_mem_nil, or_false] at hc
      rcases hc with rfl | rfl
      · obtain ⟨o1, e1, _⟩ := hit
        exact Heap.lt_size e1
      · exact Heap.lt_size he
    have kk : ∀ c o, c ∉ [n, n + 1] → s.heap.get? c = some o → g2.get? c = some o := fun c o hc e => by
      simp only [List.mem_cons, List.not_mem_nil, or_false, not_or] at hc
      exact (sb.2 c hc.2).trans (k1 c o hc.2 hc.1 e)
    have TT : g2.get? s.heap.objs.size = some { cls := .type "tuple", data := .seq #[.int i s.toks, u] } := (sb.2 _ nT).trans T1
    have I2 := I.turnedNew (T := s.heap.objs.size) (o := .tup [.int i, x]) (rs := [n, n + 1]) (t' := s.toks + 1) hf kk (Nat.le_refl _) ⟨by show 2 ≤ sizeLine; decide, [.int i s.toks, u], .cons ⟨_, rfl⟩ (.cons ru .nil), ⟨_, TT, rfl, _, rfl⟩⟩
    refine ⟨.ref s.heap.objs.size, _, I2, rfl, ⟨_, I.fresh, rfl, fun xs' w1 => ⟨x, by rw [I.list_inj w1 q1]; exact hx, rfl⟩⟩, ⟨⟨_, by simpa using z2⟩, j1.at fun o e => (sb.2 _ d0.symm).trans e⟩, fun c hc => ?_⟩
    rw [upd_ne (Nat.ne_of_lt (lt c hc))]
    exact (hf c hc).1
  done := by
    intro X hP hw hK hc i pins s σ H E I hf Z hg
    subst hP hw hK
    obtain ⟨xs, q1, hx⟩ := hg
    obtain ⟨its, rv, pl, _⟩ := I.list q1
    obtain ⟨⟨old, he⟩, hit⟩ := Z
    have hl := rv.length
    refine wpAny_pyNext_enum_end (I.ok.hd hc) he hit pl.isList (by simp; omega) fun g k => ⟨rfl, I.turnedL (rs := [n, n + 1]) (t' := s.toks) hf fun c o hc e => ?_⟩
    simp only [List.mem_cons, List.not_mem_nil, or_false, not_or] at hc
    exact k c o hc.1 e
  self := fun _ _ _ _ _ Z h => by
    obtain ⟨⟨old, he⟩, _⟩ := Z
    exact wpAny_pyIter_enum he h
def iEnum (K : PySem.W.Frag) (ta : TA) : TI := fun σ H R => ta σ H fun vs H1 => ∃ a, vs = [.ref a] ∧ (∃ xs, SqL K H1 a xs) ∧ R (Ite K a) H1
theorem pi_enum {X : Cx} {a : Expr} {ta : TA} {p pos : Pos} {elts : List Expr} {x1 : Nat} {tpos : Pos} (hg : Gl X "enumerate") (hm : X.mg "enumerate" = none) (ha : PA X [a] ta) (hs : starEach [a] X.env = [(false, eval a X.env)] := by rfl) :
    PI X (.Tuple elts x1 tpos) (.Call (.Name "enumerate" p) [a] [] pos) (iEnum X.K ta) := by
  intro pins s σ H R I h
  refine wpAny_Call_Name_kw (ld_blt I hg hm PyProof.Rows.boot_enumerate (PyProof.Rows.callWith_type1 (thn (ha pos pins s σ H _ I h) fun us s1 ⟨vs, H1, I1, r1, q1⟩ => ?_) hs rfl))
  obtain ⟨a', rfl, ⟨xs, q1⟩, q⟩ := q1
  obtain ⟨u, rfl, ru⟩ := vals1 r1
  cases ru
  obtain ⟨its, _, pl, _⟩ := I1.list q1
  refine call_enumerate_list pl.isList fun g he hit _ k => wpAny_pyIter_enum he ?_
  have I2 : Inv X pins σ H1 { s1 with heap := g } := I1.kept (t' := s1.toks) k
  refine ⟨s1.heap.objs.size + 1, _, _, Ite X.K a', H1, rfl, I2, turn_enum a' s1.heap.objs.size, ⟨⟨_, he⟩, hit⟩, fun c hc => ?_, q⟩
  have hge : s1.heap.objs.size ≤ c := by
    simp only [List.mem_cons, List.not_mem_nil, or_false] at hc
    rcases hc with rfl | rfl
    · exact Nat.le_refl _
    · exact Nat.le_add_right ..
  exact I1.fpOk hge (I1.hok.fresh hge)
theorem for_enum {K : PySem.W.Frag} {a : Addr} {xs : List V} {g : TG} {tb : TS} {D : Ends} {σ : St} {H : Hp} (Pv : Nat → St → Hp → Prop) (h0 : Pv 0 σ H) (hl : ∀ i σ H, i ≤ xs.length → Pv i σ H → SqL K H a xs)
    (hs : ∀ i x σ H t, xs[i]? = some x → Pv i σ H → H t = none → g (.ref t) σ (upd H t (.tup [.int i, x])) fun σ2 H2 => tb { D with nx := Pv (i + 1), ct := Pv (i + 1), bk := D.nx } σ2 H2) (hd : ∀ σ H, Pv xs.length σ H → D.nx σ H) :
    ∃ W : Nat → Nat → St → Hp → Prop, (∃ m, W 0 m σ H) ∧ ∀ i m σ H, W i m σ H →
      ((Ite K a).stop i H ∧ D.nx σ H) ∨ ((Ite K a).go i H ∧ ∃ N : St → Hp → Prop, (∀ σ' H', N σ' H' → ∃ m', m' < m ∧ W (i + 1) m' σ' H') ∧ ∀ x H', (Ite K a).yld i H x H' → g x σ H' fun σ2 H2 => tb { D with nx := N, ct := N, bk := D.nx } σ2 H2) := by
  refine ⟨fun i m σ H => m = xs.length - i ∧ i ≤ xs.length ∧ Pv i σ H, ⟨xs.length, by simp, Nat.zero_le _, h0⟩, ?_⟩
  rintro i m σ H ⟨rfl, hi, p⟩
  have q := hl i σ H hi p
  by_cases hlt : i < xs.length
  · refine .inr ⟨⟨xs, xs[i], q, by simp [hlt]⟩, Pv (i + 1), fun σ' H' p' => ⟨xs.length - (i + 1), by omega, rfl, hlt, p'⟩, fun x H' y => ?_⟩
    obtain ⟨t, ht, rfl, w⟩ := y
    obtain ⟨u, e1, rfl⟩ := w xs q
    exact hs i u σ H t e1 p ht
  · have e : i = xs.length := by omega
    subst e
    exact .inl ⟨⟨xs, q, Nat.le_refl _⟩, hd σ H p⟩
/-! ### sum of a list of ints -/
theorem pre_sum (ns : List Int) : ∀ j, j ≤ ns.length → preSum (fun i => ns.getD i 0) j = (ns.take j).sum
  | 0, _ => by simp [preSum]
  | j + 1, h => by
    have ih := pre_sum ns j (by omega)
    have e : ns[j]? = some ns[j] := by simp [show j < ns.length by omega]
    have q : ns.take (j + 1) = ns.take j ++ [ns[j]] := by rw [List.take_succ, e]; rfl
    rw [q, List.sum_append, ← ih]
    simp [preSum, List.getD, e]
section
variable {X : Cx}
theorem call_sum (hc : X.calm = true := by rfl) : CallR X (.builtin "sum") (fun xs H Q => ∃ (p : Addr) (ns : List Int), xs = [.ref p] ∧ SqL X.K H p (ns.map V.int) ∧ Q (.int ns.sum) H) := by
  intro pins s σ H xs us Q I r h
  obtain ⟨p, ns, rfl, hq, q⟩ := h
  obtain ⟨u, rfl, ru⟩ := vals1 r
  cases ru
  obtain ⟨its, rv, pl, hz⟩ := I.list hq
  have lp : p < s.heap.objs.size := by
    obtain ⟨o, e, _⟩ := pl.isList
    exact Heap.lt_size e
  have hl := rv.length
  rw [List.length_map] at hl
  have val : ∀ i v, its.toArray[i]? = some v → ∃ t, v = Value.int (ns.getD i 0) t := fun i v hv => by
    have hi : its[i]? = some v := by simpa using hv
    have hb : i < ns.length := by
      have := (List.getElem?_eq_some_iff.mp hi).1
      omega
    obtain ⟨u, hu, ru⟩ := rv.get (i := i) (x := V.int ns[i]) (by rw [List.getElem?_map, List.getElem?_eq_getElem hb]; rfl)
    rw [hi] at hu
    cases hu
    obtain ⟨t, e⟩ := ru
    exact ⟨t, by rw [e]; simp [List.getD, hb]⟩
  refine call_sum_walkG (wpAny_pyIter_list pl.isList ⟨s.heap.objs.size, _, _, _, _, _, fun i => ns.getD i 0, rfl, Walks.list (A := X.A.in1) (I.ok.hd hc) s.heap.objs.size p (Nat.ne_of_lt lp) its.toArray, ⟨⟨_, Heap.get?_push_size _ rfl, rfl, rfl⟩, pl.isList.at fun o e => Heap.get?_push_of_some _ e⟩, ?_, val, ?_⟩)
  · intro b hb
    rw [Heap.size_push]
    rcases List.mem_cons.mp hb with z | z
    · rw [z]; exact Nat.lt_succ_self _
    · have z : b = p := by simpa using z
      rw [z]; exact Nat.lt_succ_of_lt lp
  · intro h' tk t' hk
    have kept : ∀ b o, s.heap.get? b = some o → h'.get? b = some o := fun b o e => hk b o (by
      intro z
      have z : b = s.heap.objs.size := by simpa using z
      exact absurd (Heap.lt_size e) (by rw [z]; exact Nat.lt_irrefl _)) (Heap.get?_push_of_some _ e)
    refine ⟨.int ns.sum, H, I.kept kept, ⟨t', ?_⟩, q⟩
    rw [List.size_toArray, ← hl, pre_sum ns _ (Nat.le_refl _), List.take_length]
/-- a text times 0 or 1 -/
theorem op_rep_str : OpR X (binaryOp .Mult) (fun x y H Q => ∃ (z : Str) (n : Int), x = .str z ∧ y = .int n ∧ z.length = 1 ∧ (n = 0 ∨ n = 1) ∧ Q (.str (if n = 0 then Str.empty else z)) H) := by
  intro pins s σ H x y v u Q I rx ry h
  obtain ⟨z, n, rfl, rfl, hz, hn, q⟩ := h
  obtain ⟨t, rfl⟩ := rx
  obtain ⟨t', rfl⟩ := ry
  rcases hn with rfl | rfl
  · exact PySem.P.mul_str_none (by decide) (by decide) ⟨.str _, H, I.tok _, ⟨_, rfl⟩, q⟩
  · refine PySem.P.mul_str (by decide) (fun _ c => absurd c (by simp)) (fun _ c => absurd c (by simp)) ?_
    rw [if_neg (by decide), if_pos (by simp)]
    exact ⟨.str z, H, I, ⟨_, rfl⟩, q⟩
end
end L2
namespace L2
open PySem PySem.Spec PyProof.Rows
theorem vals_of_ints : ∀ {us : List Value} {ns : List Int}, IntsAre us ns → Vals (ns.map V.int) us
  | _, _, .nil => .nil
  | _, _, .cons n t r => .cons ⟨t, rfl⟩ (vals_of_ints r)
/-- sorted of fewer than 64 ints: the same ones, rising -/
theorem call_sortI {X : Cx} : CallR X (.builtin "sorted") (fun xs H Q => ∃ (p : Addr) (ns : List Int), xs = [.ref p] ∧ SqL X.K H p (ns.map V.int) ∧ ns.length < 64 ∧
    ∀ ns' : List Int, ns'.Perm ns → ns'.Pairwise (· ≤ ·) → ∀ l, H l = none → Q (.ref l) (upd H l (.lst (ns'.map V.int)))) := by
  intro pins s σ H xs us Q I r h
  obtain ⟨p, ns, rfl, hq, hz, q⟩ := h
  obtain ⟨u, rfl, ru⟩ := vals1 r
  cases ru
  obtain ⟨its, rv, pl, _⟩ := I.list hq
  have len := rv.length
  rw [List.length_map] at len
  refine sorted_ints pl.isList (intsAre_of rv) (by omega) fun out ns' a1 a2 a3 => ?_
  obtain ⟨e, he⟩ := sortedAll_at s.heap its out
  have le : s.heap.objs.size ≤ s.heap.objs.size + 1 := Nat.le_succ _
  refine ⟨.ref (s.heap.objs.size + 1), _, I.laid (t' := s.toks) (o := .lst (ns'.map V.int)) (fun b o z => sortedAll_old z) le ?_, rfl, q ns' a2 a3 _ (I.hok.fresh le)⟩
  refine ⟨?_, out.toList, e, vals_of_ints a1, by rw [Array.toArray_toList]; exact he⟩
  rw [List.length_map, a2.length_eq]
  exact Nat.le_of_lt (small1000 (by omega))
end L2
namespace L2
open PySem PySem.Spec PyProof.Rows
/-! ### a dict's keys, walked: the dict is frozen from then on -/
theorem Inv.freeze {X : Cx} {pins : List (Addr × Obj)} {σ : St} {H : Hp} {s : Shared} {d : Addr} {o : Obj} {kvs : List (Key × V)} (I : Inv X pins σ H s) (h : H d = some (.dK kvs)) (ho : s.heap.get? d = some o) :
    Inv X pins σ (upd H d (.frz o (.dK kvs))) s := by
  have nd : ∀ b u, H b = some u → (∀ z, u ≠ .dK z) → b ≠ d := fun b u e hu z => by
    rw [z, h] at e
    exact hu _ (Option.some.inj e).symm
  refine I.step (g' := s.gens) (d' := s.drawn) (t' := s.toks) (h' := s.heap) (ch := []) (fun _ z => nomatch z) (fun b u _ _ _ e _ => e) (fun b u _ _ _ e _ => ⟨u.slots, e⟩) (fun b u _ e n => by rw [upd_ne (fun z => by rw [z, h] at n; cases n)]; exact n)
    (fun b u _ e => ⟨u, e⟩) (fun b xs e => by rw [upd_ne (nd b _ e (by intro z c; cases c))]; exact e) (fun b u v e => by rw [upd_ne (nd b _ e (by intro z c; cases c))]; exact e)
    (fun b ps e => ⟨#[], by rw [upd_ne (nd b _ e (by intro z c; cases c)), e]; simp⟩) (fun m hm => hm) (fun b u e => ?_) I.bare
  by_cases hb : b = d
  · subst hb
    rw [upd_same] at e
    cases e
    exact ⟨ho, I.hok b _ h⟩
  · rw [upd_ne hb] at e
    exact (I.hok b u e).stay (fun c v _ q => q) (fun c q => by rw [upd_ne (nd c _ q (by intro z w; cases w))]; exact q) fun c xs q => by rw [upd_ne (nd c _ q (by intro z w; cases w))]; exact q
theorem kv_get {κ : Type} : ∀ {kvs : List (κ × V)} {vs : List (κ × Value)} {i : Nat} {k : κ} {v : V}, KV kvs vs → kvs[i]? = some (k, v) → ∃ u, vs[i]? = some (k, u) ∧ RelV v u
  | _, _, _, _, _, .nil, e => by simp at e
  | _, _, 0, _, _, .cons r _, e => by
    simp at e
    subst e
    obtain ⟨r1, r2⟩ := r
    exact ⟨_, by simp; exact Prod.ext r1.symm rfl, r2⟩
  | _, _, i + 1, _, _, .cons _ r, e => by
    obtain ⟨u, e1, e2⟩ := kv_get (i := i) r (by simpa using e)
    exact ⟨u, by simpa using e1, e2⟩
theorem key_rel {k : Key} {u : Value} (h : keyIs k u = true) : RelV (kV k) u := by
  rcases keyIs_shape h with ⟨i, t, rfl, rfl⟩ | ⟨x, t, rfl, rfl⟩
  · exact ⟨t, rfl⟩
  · exact ⟨t, rfl⟩
def Itd (d : Addr) (o : Obj) (kvs : List (Key × V)) : It :=
  ⟨fun i H => i < kvs.length ∧ H d = some (.frz o (.dK kvs)), fun i H x H' => H' = H ∧ ∃ k v, kvs[i]? = some (k, v) ∧ x = kV k, fun i H => kvs.length ≤ i ∧ H d = some (.frz o (.dK kvs))⟩
theorem frz_at {X : Cx} {pins : List (Addr × Obj)} {σ : St} {H : Hp} {s : Shared} {d : Addr} {o : Obj} {kvs : List (Key × V)} {es : Array DictEntry} {ep : Nat} (I : Inv X pins σ H s) (ho : o.data = .dict es ep) (h : H d = some (.frz o (.dK kvs))) :
    ∃ vs, KV kvs vs ∧ s.heap.DictAt (mixKind X.prog X.w) d vs ep ∧ (d == sysModules) = false := by
  obtain ⟨e, z, ns, vs, rel, o', es', ep', h1, h2, h3, h4, h5, h6⟩ := (show ObjOk X.prog X.w H s.heap d (.frz o (.dK kvs)) from I.hok d _ h)
  rw [e] at h1
  cases h1
  rw [ho] at h3
  cases h3
  exact ⟨vs, rel, ⟨o, es, e, h2, ho, h4, h5, h6⟩, ns⟩
theorem turn_dict {P : Program} {w : World} {K : PySem.W.Frag} {tg : Expr} (d it : Addr) (o : Obj) (kvs : List (Key × V)) {es : Array DictEntry} {ep : Nat} (ho : o.data = .dict es ep) :
    Turn P w K tg (Itd d o kvs) [it] it (fun i h => i ≤ kvs.length ∧ h.IsKeyIter it d i kvs.length ep) where
  mem := by simp
  obj := fun i h st b hb => by
    have e : b = it := by simpa using hb
    subst e
    obtain ⟨o, e, c, q⟩ := st.2
    exact ⟨o, e, fun v z => by rw [q] at z; cases z⟩
  keep := fun i h h' st k => ⟨st.1, st.2.at fun o e => k it (by simp) o e⟩
  item := by
    intro X hP hw hK hc i pins s σ H E I hf st hg
    subst hP hw hK
    obtain ⟨hi, hd⟩ := hg
    obtain ⟨f0, f1, f2, f3, f4, f5⟩ := hf it (by simp)
    obtain ⟨vs, rel, da, ns⟩ := frz_at I ho hd
    have hl : kvs.length = vs.length := Paired.length rel
    obtain ⟨u, hu, _⟩ := kv_get (i := i) (k := kvs[i].1) (v := kvs[i].2) rel (by simp [hi])
    have st2 := st.2
    rw [hl] at st2
    refine wpAny_pyNext_dict_item st2 da hu fun key h' hk st' sb => ?_
    have I1 : Inv X pins σ H { s with heap := h' } := I.turned (t' := s.toks) (fun b o hb e => (sb.2 b hb).trans e) f0 f1 f3 f4 f5
    obtain ⟨o2, e2, c2, d2⟩ := id st'
    rw [← hl] at st'
    exact ⟨key, rfl, go_of (s := { s with heap := h' }) e2 c2 d2 (by decide) ⟨kV kvs[i].1, H, I1, key_rel hk, ⟨rfl, kvs[i].1, kvs[i].2, by simp [hi], rfl⟩, ⟨hi, st'⟩, fun b hb => (hf b hb).1⟩⟩
  done := by
    intro X hP hw hK hc i pins s σ H E I hf st hg
    subst hP hw hK
    obtain ⟨hi, hd⟩ := hg
    obtain ⟨f0, f1, f2, f3, f4, f5⟩ := hf it (by simp)
    obtain ⟨vs, rel, da, ns⟩ := frz_at I ho hd
    have hl : kvs.length = vs.length := Paired.length rel
    have st2 := st.2
    rw [hl] at st2
    exact wpAny_pyNext_dict_end (I.ok.hd hc) st2 da (by simp; omega) fun h' eb => ⟨rfl, I.turned (t' := s.toks) (fun b o hb e => eb b o hb e) f0 f1 f3 f4 f5⟩
  self := fun _ _ _ _ _ st h => wpAny_pyIter_keyiter st.2 h
def iDict (tl : TE) : TI := fun σ H R => tl σ H fun x H1 => ∃ d kvs, x = .ref d ∧ H1 d = some (.dK kvs) ∧ ∀ o, R (Itd d o kvs) (upd H1 d (.frz o (.dK kvs)))
theorem pi_dict {X : Cx} {tg l : Expr} {tl : TE} (hl : PE X l tl) : PI X tg l (iDict tl) := by
  intro pins s σ H R I h
  refine thn (hl pins s σ H _ I h) fun v s1 ⟨x, H1, I1, r1, q1⟩ => ?_
  obtain ⟨d, kvs, e, hd, q⟩ := q1
  subst e
  cases r1
  obtain ⟨z, ns, vs, rel, o, es, ep, h1, h2, h3, h4, h5, h6⟩ := dk_of I1.hok hd
  have hl : kvs.length = vs.length := Paired.length rel
  have I2 := I1.freeze hd h1
  refine wpAny_pyIter_dict (knd := mixKind X.prog X.w) ns ⟨o, es, h1, h2, h3, h4, h5, h6⟩ ?_
  have f : (upd H1 d (.frz o (.dK kvs))) s1.heap.objs.size = none := I2.hok.fresh (Nat.le_refl _)
  refine ⟨s1.heap.objs.size, [s1.heap.objs.size], _, _, _, rfl, I2.kept (t' := s1.toks) fun b o e => Heap.get?_push_of_some _ e, turn_dict d _ o kvs h3, ⟨Nat.zero_le _, ⟨_, Heap.get?_push_size _ rfl, rfl, by rw [hl]; rfl⟩⟩, fun b hb => ?_, q o⟩
  have e : b = s1.heap.objs.size := by simpa using hb
  subst e
  exact I2.fpOk (Nat.le_refl _) f
theorem comp_dict {d : Addr} {o : Obj} {kvs : List (Key × V)} {g : TG} {tc : TT} {te : TE} {Kf : List V → Hp → Prop} {σ0 : St} {H1 : Hp} (Pv : Nat → List V → St → Hp → Prop) (hz : kvs.length < sizeLine) (h0 : Pv 0 [] σ0 H1) (hb : ∀ i zs σ H, Pv i zs σ H → zs.length ≤ i)
    (hl : ∀ i zs σ H, i ≤ kvs.length → Pv i zs σ H → H d = some (.frz o (.dK kvs)))
    (hs : ∀ i k v zs σ H, kvs[i]? = some (k, v) → Pv i zs σ H → g (kV k) σ H fun σ2 H2 => tc σ2 H2 fun b H3 => if b = true then te σ2 H3 fun y H4 => Pv (i + 1) (zs ++ [y]) σ2 H4 else Pv (i + 1) zs σ2 H3)
    (hd : ∀ zs σ H, Pv kvs.length zs σ H → Kf zs H) : CompW (Itd d o kvs) g tc te Kf σ0 H1 := by
  refine ⟨fun i m zs σ H => m = kvs.length - i ∧ i ≤ kvs.length ∧ Pv i zs σ H, ⟨kvs.length, by simp, Nat.zero_le _, h0⟩, ?_⟩
  rintro i m zs σ H ⟨rfl, hi, p⟩
  have q1 := hl i zs σ H hi p
  refine ⟨Nat.lt_of_le_of_lt (hb _ _ _ _ p) (Nat.lt_of_le_of_lt hi hz), ?_⟩
  by_cases hlt : i < kvs.length
  · refine .inr ⟨⟨hlt, q1⟩, Pv (i + 1), fun zs' σ' H' p' => ⟨kvs.length - (i + 1), by omega, rfl, hlt, p'⟩, fun x H' y => ?_⟩
    obtain ⟨rfl, k, v, e1, rfl⟩ := y
    exact hs i k v zs σ _ e1 p
  · have e : i = kvs.length := by omega
    subst e
    exact .inl ⟨⟨Nat.le_refl _, q1⟩, hd zs σ H p⟩
theorem DGet.f {H : Hp} {a : Addr} {o : Obj} {kvs : List (Key × V)} {k : Key} (e : H a = some (.frz o (.dK kvs))) : DGet H a (kV k) (valV kvs k) := .inl ⟨kvs, k, .inr ⟨o, e⟩, rfl, rfl⟩
end L2
namespace L2
open PySem PySem.Spec PyProof.Rows
section
variable {X : Cx}
def rGetN (K : PySem.W.Frag) : V → V → Hp → VK → Prop := fun o i H Q => ∃ p xs k v, o = .ref p ∧ i = .int k ∧ SqL K H p xs ∧ 0 ≤ k ∧ xs[k.toNat]? = some v ∧ Q v H
theorem get_list : PGet X (rGetN X.K) := by
  intro pins s σ H o i ov iv Q I ro ri h
  obtain ⟨p, xs, k, v, rfl, rfl, hq, h0, hv, q⟩ := h
  cases ro
  obtain ⟨t, rfl⟩ := ri
  obtain ⟨its, r, pl, hz⟩ := I.list hq
  obtain ⟨w, ew, rw'⟩ := r.get hv
  have hl := r.length
  have hn := line63
  have hk : k.toNat < xs.length := (List.getElem?_eq_some_iff.mp hv).1
  exact wpAny_getItem_list pl.isList h0 (by omega) (x := w) (by simpa using ew) ⟨v, H, I, rw', q⟩
variable {g : TG} {tc : TT} {te : TE}
end
end L2
namespace L2
open PySem PySem.Spec PyProof.Rows
open AutoSeq1 (wpAny_loadPart')
/-! ### enumerate of a tuple, walked -/
section
variable {prog : Program} {w : World} {A : Around} {E : Value → Shared → Prop} {s : Shared}
theorem draws_tup (hh : A.handled = none) (it l : Addr) (hne : l ≠ it) (items : Array Value) :
    Draws prog w A it [it, l] items.size (fun i v => items[i]? = some v) (fun i h => h.IsTupleIter it l i ∧ h.IsTuple l items) where
  live := fun _ _ st => let ⟨o, ho, _⟩ := st.1; ⟨o, ho⟩
  frame := fun _ _ _ st hk => ⟨let ⟨o, ho, r⟩ := st.1; ⟨o, hk it (by simp) o ho, r⟩, let ⟨o, ho, r⟩ := st.2; ⟨o, hk l (by simp) o ho, r⟩⟩
  item := fun i s Q E hi st hQ => by
    refine nx_tup st.1 st.2 (v := items[i]) (by simp [hi]) fun h' hit' hs' => ?_
    exact hQ _ h' s.toks (by simp [hi]) ⟨hit', st.2.extBut hs'.extBut hne⟩ hs'
  done := fun s Q E st hE => nx_tup_end hh st.1 st.2 (by simp) hE
end
theorem meets_enum_tup (l : Addr) (items : Array Value) (n : Nat) (dct : Option Addr) (sl : Array (Option Value)) :
    Meets (Builtin.«enumerate.__new__» ⟨[.type "enumerate", .ref l], []⟩) (fun _ R s => s.heap.get? l = some { cls := .type "tuple", dict := dct, data := .seq items n, slots := sl } ∧
      R (.ok (.ret (.ref (s.heap.push { cls := .type "tuple_iterator", data := .fields #[.ref l, .int 0 0] }).objs.size)))
        { s with heap := (s.heap.push { cls := .type "tuple_iterator", data := .fields #[.ref l, .int 0 0] }).push { cls := .type "enumerate", data := .fields #[.none, .bool false, .ref s.heap.objs.size, rawInt 0, .none, .none] } }) :=
  .of_wp fun prog w A R s h => by
    obtain ⟨hp, g, d, tk, os⟩ := s; obtain ⟨hl, h⟩ := h
    have hsub := sub_enumerate
    have hL : Heap.IsTuple (Shared.heap ⟨hp, g, d, tk, os⟩) l items := ⟨_, hl, rfl, n, rfl⟩
    wp_walk using wpAny_loadPart' hl
    refine wpAny_stack_any fun st => wpAny_pure ?_
    split
    · rename_i c _ _ _ _ _
      cases (c == Value.type "enumerate")
      · wp_walk using wpAny_loadPart' hl, wpAny_pyIter_tuple hL
        exact ⟨_, rfl, h⟩
      · wp_walk using wpAny_loadPart' hl, wpAny_pyIter_tuple hL
        exact ⟨_, rfl, h⟩
    · wp_walk using wpAny_loadPart' hl, wpAny_pyIter_tuple hL
      exact ⟨_, rfl, h⟩
section
variable {prog : Program} {w : World} {A : Around} {E : Value → Shared → Prop} {s : Shared}
theorem call_enum_tup {l : Addr} {items : Array Value} {Q : Value → Shared → Prop} (hL : s.heap.IsTuple l items)
    (h : ∀ h', IsEnum h' (s.heap.objs.size + 1) s.heap.objs.size 0 .none → h'.IsTupleIter s.heap.objs.size l 0 → h'.objs.size = s.heap.objs.size + 2 →
      (∀ b o, s.heap.get? b = some o → h'.get? b = some o) → Q (.ref (s.heap.objs.size + 1)) { s with heap := h' }) :
    wpAny (model prog w) A (call (.type "enumerate") [.ref l]) Q E s := by
  obtain ⟨⟨c, dct, dt, sl⟩, hl, hc, n, hd⟩ := hL
  replace hc : c = .type "tuple" := hc
  replace hd : dt = .seq items n := hd
  subst hc hd
  refine callType_new F.called_enumerate (by decide) (F.typeCall_enumerate_1 _) (F.newCall_enumerate_1 _) (fun obj => F.args_object_init_2 obj _) F.entry_enumerate_new
    (meets_enum_tup l items n dct sl) ⟨hl, ?_⟩
  have hz : (s.heap.push { cls := .type "tuple_iterator", data := .fields #[.ref l, .int 0 0] }).objs.size = s.heap.objs.size + 1 := Heap.size_push ..
  show _ ∧ _
  rw [hz]
  have he : IsEnum ((s.heap.push { cls := .type "tuple_iterator", data := .fields #[.ref l, .int 0 0] }).push
      { cls := .type "enumerate", data := .fields #[.none, .bool false, .ref s.heap.objs.size, rawInt 0, .none, .none] }) (s.heap.objs.size + 1) s.heap.objs.size 0 .none := by
    have := Heap.get?_push_size (s.heap.push { cls := .type "tuple_iterator", data := .fields #[.ref l, .int 0 0] })
      (o := { cls := .type "enumerate", data := .fields #[.none, .bool false, .ref s.heap.objs.size, rawInt 0, .none, .none] }) rfl
    rw [hz] at this; exact this
  refine ⟨⟨_, he, rfl⟩, h _ he ⟨_, Heap.get?_push_of_some _ (Heap.get?_push_size _ rfl), rfl, rfl⟩ (by rw [Heap.size_push, hz]) fun b o x => Heap.get?_push_of_some _ (Heap.get?_push_of_some _ x)⟩
end
def Itet (K : PySem.W.Frag) (a : Addr) : It :=
  ⟨fun i H => ∃ xs x, SqT K H a xs ∧ xs[i]? = some x,
   fun i H x H' => ∃ t, H t = none ∧ x = .ref t ∧ ∀ xs, SqT K H a xs → ∃ u, xs[i]? = some u ∧ H' = upd H t (.tup [.int i, u]),
   fun i H => ∃ xs, SqT K H a xs ∧ xs.length ≤ i⟩
theorem turn_enumT {P : Program} {w : World} {K : PySem.W.Frag} {elts : List Expr} {x1 : Nat} {pos : Pos} (a n : Addr) (han : a < n) :
    Turn P w K (.Tuple elts x1 pos) (Itet K a) [n, n + 1] (n + 1) (fun i h => (∃ old, IsEnum h (n + 1) n i old) ∧ h.IsTupleIter n a i) where
  mem := by simp
  obj := fun i h Z c hc => by
    obtain ⟨⟨old, he⟩, ⟨o1, e1, c1, d1⟩⟩ := Z
    simp only [List.mem_cons, List.not_mem_nil, or_false] at hc
    rcases hc with rfl | rfl
    · exact ⟨_, e1, fun v z => by rw [d1] at z; cases z⟩
    · exact ⟨_, he, fun v z => by cases z⟩
  keep := fun i h h' Z k => ⟨let ⟨old, he⟩ := Z.1; ⟨old, k _ (by simp) _ he⟩, let ⟨o, e, r⟩ := Z.2; ⟨o, k _ (by simp) o e, r⟩⟩
  item := by
    intro X hP hw hK hc i pins s σ H E I hf Z hg
    subst hP hw hK
    obtain ⟨xs, x, q1, hx⟩ := hg
    obtain ⟨its, rv, pl, _⟩ := I.tuple q1
    obtain ⟨u, hu, ru⟩ := rv.get hx
    obtain ⟨⟨old, he⟩, hit⟩ := Z
    have d0 : n + 1 ≠ n := Nat.succ_ne_self n
    have hil : i < its.toArray.size := by
      have := (List.getElem?_eq_some_iff.mp hu).1
      simpa using this
    refine wpAny_pyNext_enum_itemD (fp := [n, a]) (P := fun i v => its.toArray[i]? = some v) (draws_tup (A := X.A.in1) (I.ok.hd hc) n a (Nat.ne_of_lt han) its.toArray) he ⟨hit, pl⟩ hil d0 (fun z => by
      simp only [List.mem_cons, List.not_mem_nil, or_false] at z
      rcases z with z | z
      · exact d0 z
      · exact absurd z (Nat.ne_of_gt (Nat.lt_succ_of_lt han))) fun x' g tk px z1 j1 T1 _ k1 => ?_
    have exu : x' = u := by
      have : its[i]? = some x' := by simpa using px
      rw [hu] at this
      exact (Option.some.inj this).symm
    subst exu
    refine ⟨_, rfl, wpAny_letOwnedTupleGo_enum z1 fun g2 z2 sb => ?_⟩
    have nT : s.heap.objs.size ≠ n + 1 := Nat.ne_of_gt (Heap.lt_size he)
    have lt : ∀ c ∈ [n, n + 1], c < s.heap.objs.size := fun c hc => by
      simp only [List.mem_cons, List.not_mem_nil, or_false] at hc
      rcases hc with rfl | rfl
      · obtain ⟨o1, e1, _⟩ := hit
        exact Heap.lt_size e1
      · exact Heap.lt_size he
    have kk : ∀ c o, c ∉ [n, n + 1] → s.heap.get? c = some o → g2.get? c = some o := fun c o hc e => by
      simp only [List.mem_cons, List.not_mem_nil, or_false, not_or] at hc
      exact (sb.2 c hc.2).trans (k1 c o hc.2 hc.1 e)
    have TT : g2.get? s.heap.objs.size = some { cls := .type "tuple", data := .seq #[.int i tk, x'] } := (sb.2 _ nT).trans T1
    have I2 := I.turnedNew (T := s.heap.objs.size) (o := .tup [.int i, x]) (rs := [n, n + 1]) (t' := tk + 1) hf kk (Nat.le_refl _) ⟨by show 2 ≤ sizeLine; decide, [.int i tk, x'], .cons ⟨_, rfl⟩ (.cons ru .nil), ⟨_, TT, rfl, _, rfl⟩⟩
    refine ⟨.ref s.heap.objs.size, _, I2, rfl, ⟨_, I.fresh, rfl, fun xs' w1 => ⟨x, by rw [I.tuple_inj w1 q1]; exact hx, rfl⟩⟩, ⟨⟨_, by simpa using z2⟩, ?_⟩, fun c hc => ?_⟩
    · obtain ⟨o, e, r⟩ := j1.1
      exact ⟨o, (sb.2 _ d0.symm).trans e, r⟩
    rw [upd_ne (Nat.ne_of_lt (lt c hc))]
    exact (hf c hc).1
  done := by
    intro X hP hw hK hc i pins s σ H E I hf Z hg
    subst hP hw hK
    obtain ⟨xs, q1, hx⟩ := hg
    obtain ⟨its, rv, pl, _⟩ := I.tuple q1
    obtain ⟨⟨old, he⟩, hit⟩ := Z
    have hl := rv.length
    have hT : s.TypeIs (.ref (n + 1)) "enumerate" := ⟨_, he, rfl⟩
    unfold pyNext
    refine wpAny_bind (wpAny_attempt (wpAny_callSpecial?_slot (name := Str.ofString "__next__") hT F.slot_enumerate_next
      (wpAny_call_entry F.slot_enumerate_next hT F.entry_enumerate_next ?_ (F.args_enumerate_next_1 _))))
    show wpAny _ _ (field (.ref (n + 1)) 2 >>= _) _ _ _
    refine wpAny_bind (wpAny_field he rfl (x := .ref n) rfl ?_)
    refine wpAny_bind (nx_tup_end (I.ok.hd hc) hit pl (by simp; omega) fun g x he' hx' => ?_)
    obtain ⟨o, ho, hc'⟩ := hx'
    refine wpAny_bind (wpAny_isInstance (T := "StopIteration") (b := true) ⟨o, ho, hc'⟩ isSubtype_stop ?_)
    refine wpAny_pure ⟨rfl, I.turnedL (rs := [n, n + 1]) (t' := s.toks) hf fun c o hc e => ?_⟩
    simp only [List.mem_cons, List.not_mem_nil, or_false, not_or] at hc
    exact he' c o hc.1 e
  self := fun _ _ _ _ _ Z h => by
    obtain ⟨⟨old, he⟩, _⟩ := Z
    exact wpAny_pyIter_enum he h
def iEnumT (K : PySem.W.Frag) (ta : TA) : TI := fun σ H R => ta σ H fun vs H1 => ∃ a, vs = [.ref a] ∧ (∃ xs, SqT K H1 a xs) ∧ R (Itet K a) H1
theorem pi_enumT {X : Cx} {a : Expr} {ta : TA} {p pos : Pos} {elts : List Expr} {x1 : Nat} {tpos : Pos} (hg : Gl X "enumerate") (hm : X.mg "enumerate" = none) (ha : PA X [a] ta) (hs : starEach [a] X.env = [(false, eval a X.env)] := by rfl) :
    PI X (.Tuple elts x1 tpos) (.Call (.Name "enumerate" p) [a] [] pos) (iEnumT X.K ta) := by
  intro pins s σ H R I h
  refine wpAny_Call_Name_kw (ld_blt I hg hm PyProof.Rows.boot_enumerate (PyProof.Rows.callWith_type1 (thn (ha pos pins s σ H _ I h) fun us s1 ⟨vs, H1, I1, r1, q1⟩ => ?_) hs rfl))
  obtain ⟨a', rfl, ⟨xs, q1⟩, q⟩ := q1
  obtain ⟨u, rfl, ru⟩ := vals1 r1
  cases ru
  obtain ⟨its, _, pl, _⟩ := I1.tuple q1
  have la : a' < s1.heap.objs.size := by
    obtain ⟨o, e, _⟩ := id pl
    exact Heap.lt_size e
  refine call_enum_tup pl fun g he hit _ k => wpAny_pyIter_enum he ?_
  have I2 : Inv X pins σ H1 { s1 with heap := g } := I1.kept (t' := s1.toks) k
  refine ⟨s1.heap.objs.size + 1, _, _, Itet X.K a', H1, rfl, I2, turn_enumT a' s1.heap.objs.size la, ⟨⟨_, he⟩, hit⟩, fun c hc => ?_, q⟩
  have hge : s1.heap.objs.size ≤ c := by
    simp only [List.mem_cons, List.not_mem_nil, or_false] at hc
    rcases hc with rfl | rfl
    · exact Nat.le_refl _
    · exact Nat.le_add_right ..
  exact I1.fpOk hge (I1.hok.fresh hge)
theorem for_enumT {K : PySem.W.Frag} {a : Addr} {xs : List V} {g : TG} {tb : TS} {D : Ends} {σ : St} {H : Hp} (Pv : Nat → St → Hp → Prop) (h0 : Pv 0 σ H) (hl : ∀ i σ H, i ≤ xs.length → Pv i σ H → SqT K H a xs)
    (hs : ∀ i x σ H t, xs[i]? = some x → Pv i σ H → H t = none → g (.ref t) σ (upd H t (.tup [.int i, x])) fun σ2 H2 => tb { D with nx := Pv (i + 1), ct := Pv (i + 1), bk := D.nx } σ2 H2) (hd : ∀ σ H, Pv xs.length σ H → D.nx σ H) :
    ∃ W : Nat → Nat → St → Hp → Prop, (∃ m, W 0 m σ H) ∧ ∀ i m σ H, W i m σ H →
      ((Itet K a).stop i H ∧ D.nx σ H) ∨ ((Itet K a).go i H ∧ ∃ N : St → Hp → Prop, (∀ σ' H', N σ' H' → ∃ m', m' < m ∧ W (i + 1) m' σ' H') ∧ ∀ x H', (Itet K a).yld i H x H' → g x σ H' fun σ2 H2 => tb { D with nx := N, ct := N, bk := D.nx } σ2 H2) := by
  refine ⟨fun i m σ H => m = xs.length - i ∧ i ≤ xs.length ∧ Pv i σ H, ⟨xs.length, by simp, Nat.zero_le _, h0⟩, ?_⟩
  rintro i m σ H ⟨rfl, hi, p⟩
  have q := hl i σ H hi p
  by_cases hlt : i < xs.length
  · refine .inr ⟨⟨xs, xs[i], q, by simp [hlt]⟩, Pv (i + 1), fun σ' H' p' => ⟨xs.length - (i + 1), by omega, rfl, hlt, p'⟩, fun x H' y => ?_⟩
    obtain ⟨t, ht, rfl, w⟩ := y
    obtain ⟨u, e1, rfl⟩ := w xs q
    exact hs i u σ H t e1 p ht
  · have e : i = xs.length := by omega
    subst e
    exact .inl ⟨⟨xs, q, Nat.le_refl _⟩, hd σ H p⟩
/-- // by a number of at most 400 bits -/
def CDivC (i j : Int) : Prop := 0 < j ∧ j < 2 ^ 200 * 2 ^ 200
theorem op_fdivC {X : Cx} : OpR X (binaryOp .FloorDiv) (rI CDivC fun i j => .int (i / j)) := opI fun i j _ _ _ _ _ hc q => by
  obtain ⟨h0, h1⟩ := hc
  refine floordiv_int (by omega) ?_ (.inl (PyProof.noPylong_of_log2 ?_))
  · rw [Int.fdiv_eq_ediv_of_nonneg i (by omega)]; exact q
  · have h2 : j.natAbs < 2 ^ 200 * 2 ^ 200 := by omega
    rw [← Nat.pow_add] at h2
    have h3 : j.natAbs ≠ 0 := by omega
    have h4 : j.natAbs.log2 < 200 + 200 := (Nat.log2_lt h3).mpr h2
    exact Nat.lt_of_lt_of_le h4 (by decide)
end L2
namespace L2
open PySem PySem.Spec PyProof.Rows
/-! ### loops whose turns neither break nor return: the rest of the def is out of their sight -/
theorem for_listA {K : PySem.W.Frag} {a : Addr} {xs : List V} {g : TG} {tb : TS} {D : Ends} {σ : St} {H : Hp} (Pv : Nat → St → Hp → Prop) (h0 : Pv 0 σ H) (hl : ∀ i σ H, i ≤ xs.length → Pv i σ H → SqL K H a xs)
    (hs : ∀ (D' : Ends), ∀ i x σ H, xs[i]? = some x → Pv i σ H → g x σ H fun σ2 H2 => tb { D' with nx := Pv (i + 1), ct := Pv (i + 1), bk := D'.nx } σ2 H2) (hd : ∀ σ H, Pv xs.length σ H → D.nx σ H) :
    ∃ W : Nat → Nat → St → Hp → Prop, (∃ m, W 0 m σ H) ∧ ∀ i m σ H, W i m σ H →
      ((Itl K a).stop i H ∧ D.nx σ H) ∨ ((Itl K a).go i H ∧ ∃ N : St → Hp → Prop, (∀ σ' H', N σ' H' → ∃ m', m' < m ∧ W (i + 1) m' σ' H') ∧ ∀ x H', (Itl K a).yld i H x H' → g x σ H' fun σ2 H2 => tb { D with nx := N, ct := N, bk := D.nx } σ2 H2) := for_list Pv h0 hl (hs D) hd
theorem for_tupA {K : PySem.W.Frag} {a : Addr} {xs : List V} {g : TG} {tb : TS} {D : Ends} {σ : St} {H : Hp} (Pv : Nat → St → Hp → Prop) (h0 : Pv 0 σ H) (hl : ∀ i σ H, i ≤ xs.length → Pv i σ H → SqT K H a xs)
    (hs : ∀ (D' : Ends), ∀ i x σ H, xs[i]? = some x → Pv i σ H → g x σ H fun σ2 H2 => tb { D' with nx := Pv (i + 1), ct := Pv (i + 1), bk := D'.nx } σ2 H2) (hd : ∀ σ H, Pv xs.length σ H → D.nx σ H) :
    ∃ W : Nat → Nat → St → Hp → Prop, (∃ m, W 0 m σ H) ∧ ∀ i m σ H, W i m σ H →
      ((Itt K a).stop i H ∧ D.nx σ H) ∨ ((Itt K a).go i H ∧ ∃ N : St → Hp → Prop, (∀ σ' H', N σ' H' → ∃ m', m' < m ∧ W (i + 1) m' σ' H') ∧ ∀ x H', (Itt K a).yld i H x H' → g x σ H' fun σ2 H2 => tb { D with nx := N, ct := N, bk := D.nx } σ2 H2) := for_tup Pv h0 hl (hs D) hd
theorem for_rangeA {lo : Int} {n : Nat} {g : TG} {tb : TS} {D : Ends} {σ : St} {H : Hp} (Pv : Nat → St → Hp → Prop) (h0 : Pv 0 σ H)
    (hs : ∀ (D' : Ends), ∀ i σ H, i < n → Pv i σ H → g (.int (lo + i)) σ H fun σ2 H2 => tb { D' with nx := Pv (i + 1), ct := Pv (i + 1), bk := D'.nx } σ2 H2) (hd : ∀ σ H, Pv n σ H → D.nx σ H) :
    ∃ W : Nat → Nat → St → Hp → Prop, (∃ m, W 0 m σ H) ∧ ∀ i m σ H, W i m σ H →
      ((Itr lo n).stop i H ∧ D.nx σ H) ∨ ((Itr lo n).go i H ∧ ∃ N : St → Hp → Prop, (∀ σ' H', N σ' H' → ∃ m', m' < m ∧ W (i + 1) m' σ' H') ∧ ∀ x H', (Itr lo n).yld i H x H' → g x σ H' fun σ2 H2 => tb { D with nx := N, ct := N, bk := D.nx } σ2 H2) := for_range Pv h0 (hs D) hd
theorem for_enumA {K : PySem.W.Frag} {a : Addr} {xs : List V} {g : TG} {tb : TS} {D : Ends} {σ : St} {H : Hp} (Pv : Nat → St → Hp → Prop) (h0 : Pv 0 σ H) (hl : ∀ i σ H, i ≤ xs.length → Pv i σ H → SqL K H a xs)
    (hs : ∀ (D' : Ends), ∀ i x σ H t, xs[i]? = some x → Pv i σ H → H t = none → g (.ref t) σ (upd H t (.tup [.int i, x])) fun σ2 H2 => tb { D' with nx := Pv (i + 1), ct := Pv (i + 1), bk := D'.nx } σ2 H2) (hd : ∀ σ H, Pv xs.length σ H → D.nx σ H) :
    ∃ W : Nat → Nat → St → Hp → Prop, (∃ m, W 0 m σ H) ∧ ∀ i m σ H, W i m σ H →
      ((Ite K a).stop i H ∧ D.nx σ H) ∨ ((Ite K a).go i H ∧ ∃ N : St → Hp → Prop, (∀ σ' H', N σ' H' → ∃ m', m' < m ∧ W (i + 1) m' σ' H') ∧ ∀ x H', (Ite K a).yld i H x H' → g x σ H' fun σ2 H2 => tb { D with nx := N, ct := N, bk := D.nx } σ2 H2) := for_enum Pv h0 hl (hs D) hd
theorem for_enumTA {K : PySem.W.Frag} {a : Addr} {xs : List V} {g : TG} {tb : TS} {D : Ends} {σ : St} {H : Hp} (Pv : Nat → St → Hp → Prop) (h0 : Pv 0 σ H) (hl : ∀ i σ H, i ≤ xs.length → Pv i σ H → SqT K H a xs)
    (hs : ∀ (D' : Ends), ∀ i x σ H t, xs[i]? = some x → Pv i σ H → H t = none → g (.ref t) σ (upd H t (.tup [.int i, x])) fun σ2 H2 => tb { D' with nx := Pv (i + 1), ct := Pv (i + 1), bk := D'.nx } σ2 H2) (hd : ∀ σ H, Pv xs.length σ H → D.nx σ H) :
    ∃ W : Nat → Nat → St → Hp → Prop, (∃ m, W 0 m σ H) ∧ ∀ i m σ H, W i m σ H →
      ((Itet K a).stop i H ∧ D.nx σ H) ∨ ((Itet K a).go i H ∧ ∃ N : St → Hp → Prop, (∀ σ' H', N σ' H' → ∃ m', m' < m ∧ W (i + 1) m' σ' H') ∧ ∀ x H', (Itet K a).yld i H x H' → g x σ H' fun σ2 H2 => tb { D with nx := N, ct := N, bk := D.nx } σ2 H2) := for_enumT Pv h0 hl (hs D) hd
end L2
namespace Mine
open PySem L2
def gI (a b : Int) : Int := (Nat.gcd a.toNat b.toNat : Nat)
def low1 (a b : Int) : Int := a / gI a b
def low2 (a b : Int) : Int := b / gI a b
theorem gI_pos {a b : Int} (hb : 1 ≤ b) : 0 < gI a b := by
  have : 0 < Nat.gcd a.toNat b.toNat := Nat.gcd_pos_of_pos_right _ (by omega)
  unfold gI; omega
theorem gI_mul {a b c : Int} (ha : 0 ≤ a) (hb : 0 ≤ b) (hc : 0 ≤ c) : gI (c * a) (c * b) = c * gI a b := by
  obtain ⟨x, rfl⟩ := Int.eq_ofNat_of_zero_le ha
  obtain ⟨y, rfl⟩ := Int.eq_ofNat_of_zero_le hb
  obtain ⟨z, rfl⟩ := Int.eq_ofNat_of_zero_le hc
  unfold gI
  rw [← Int.natCast_mul, ← Int.natCast_mul, Int.toNat_natCast, Int.toNat_natCast, Int.toNat_natCast, Int.toNat_natCast, Nat.gcd_mul_left, Int.natCast_mul]
theorem low_mul {a b c : Int} (ha : 0 ≤ a) (hb : 1 ≤ b) (hc : 1 ≤ c) : low1 (c * a) (c * b) = low1 a b ∧ low2 (c * a) (c * b) = low2 a b := by
  unfold low1 low2
  rw [gI_mul ha (by omega) (by omega), Int.mul_ediv_mul_of_pos _ _ (by omega), Int.mul_ediv_mul_of_pos _ _ (by omega)]
  exact ⟨rfl, rfl⟩
theorem low_eq {a b c d : Int} (ha : 0 ≤ a) (hb : 1 ≤ b) (hc : 0 ≤ c) (hd : 1 ≤ d) (h : a * d = c * b) : low1 a b = low1 c d ∧ low2 a b = low2 c d := by
  have e1 := low_mul ha hb hd
  have e2 := low_mul hc hd hb
  have q1 : d * a = b * c := by rw [Int.mul_comm d a, h, Int.mul_comm]
  have q2 : d * b = b * d := Int.mul_comm _ _
  rw [q1, q2] at e1
  exact ⟨e1.1.symm.trans e2.1, e1.2.symm.trans e2.2⟩
theorem gI_dvd1 {a b : Int} (ha : 0 ≤ a) : gI a b ∣ a := by
  obtain ⟨x, rfl⟩ := Int.eq_ofNat_of_zero_le ha
  unfold gI
  rw [Int.toNat_natCast]
  exact Int.natCast_dvd_natCast.mpr (Nat.gcd_dvd_left _ _)
theorem gI_dvd2 {a b : Int} (hb : 0 ≤ b) : gI a b ∣ b := by
  obtain ⟨x, rfl⟩ := Int.eq_ofNat_of_zero_le hb
  unfold gI
  rw [Int.toNat_natCast]
  exact Int.natCast_dvd_natCast.mpr (Nat.gcd_dvd_right _ _)
theorem low_ratio {a b : Int} (ha : 0 ≤ a) (hb : 1 ≤ b) : low1 a b * b = a * low2 a b := by
  have h1 := Int.ediv_mul_cancel (gI_dvd1 (b := b) ha)
  have h2 := Int.ediv_mul_cancel (gI_dvd2 (a := a) (b := b) (by omega))
  unfold low1 low2
  generalize a / gI a b = x at h1 ⊢
  generalize b / gI a b = y at h2 ⊢
  rw [← h1, ← h2]
  generalize gI (x * gI a b) (y * gI a b) = g
  grind
theorem low1_nonneg {a b : Int} (ha : 0 ≤ a) : 0 ≤ low1 a b := Int.ediv_nonneg ha (by unfold gI; omega)
theorem low2_pos {a b : Int} (hb : 1 ≤ b) : 1 ≤ low2 a b := by
  have h2 := Int.ediv_mul_cancel (gI_dvd2 (a := a) (b := b) (by omega))
  have g := gI_pos (a := a) hb
  unfold low2
  generalize b / gI a b = y at h2 ⊢
  by_cases z : 0 < y
  · omega
  · have := Int.mul_nonneg (show 0 ≤ -y by omega) (Int.le_of_lt g)
    rw [Int.neg_mul] at this
    omega
theorem low1_le {a b : Int} (ha : 0 ≤ a) (hb : 1 ≤ b) : low1 a b ≤ a := Int.ediv_le_self _ ha
theorem low2_le {a b : Int} (hb : 1 ≤ b) : low2 a b ≤ b := Int.ediv_le_self _ (by omega)
/-! the shares and the tails of a steepness p/q -/
def shN (p q : Int) (n : Nat) : Int := (q - p) * p ^ n
def shD (p q : Int) (n : Nat) : Int := (q + p) * q ^ n
def tlN (p q : Int) (n : Nat) : Int := q * p ^ n
/-- the tail from k on, as top and bottom -/
def tN (p q k : Int) : Int := if 0 ≤ k then tlN p q k.toNat else shD p q (1 - k).toNat - tlN p q (1 - k).toNat
def tD (p q k : Int) : Int := if 0 ≤ k then shD p q k.toNat else shD p q (1 - k).toNat
def lD (p q k : Int) : Int := if k < 1 - k then shD p q (1 - k).toNat else shD p q k.toNat
theorem pow_le {p q : Int} (hp : 0 ≤ p) (h : p ≤ q) : ∀ n : Nat, p ^ n ≤ q ^ n
  | 0 => by simp
  | n + 1 => by
    rw [Int.pow_succ, Int.pow_succ]
    exact Int.mul_le_mul (pow_le hp h n) h hp (Int.pow_nonneg (by omega))
theorem tl_le {p q : Int} (hp : 1 ≤ p) (h : p < q) (n : Nat) : tlN p q n ≤ shD p q n := by
  unfold tlN shD
  have h1 := pow_le (p := p) (q := q) (by omega) (by omega) n
  have h2 : 0 ≤ p ^ n := Int.pow_nonneg (by omega)
  exact Int.mul_le_mul (by omega) h1 h2 (by omega)
theorem shD_pos {p q : Int} (hp : 1 ≤ p) (h : p < q) (n : Nat) : 1 ≤ shD p q n := by
  have h1 : 0 < q ^ n := Int.pow_pos (by omega)
  have := Int.mul_pos (show 0 < q + p by omega) h1
  unfold shD; omega
theorem tl_nn {p q : Int} (hp : 1 ≤ p) (h : p < q) (n : Nat) : 0 ≤ tlN p q n := Int.mul_nonneg (by omega) (Int.pow_nonneg (by omega))
theorem sh_nn {p q : Int} (hp : 1 ≤ p) (h : p < q) (n : Nat) : 0 ≤ shN p q n := Int.mul_nonneg (by omega) (Int.pow_nonneg (by omega))
theorem tN_nn {p q : Int} (hp : 1 ≤ p) (h : p < q) (k : Int) : 0 ≤ tN p q k := by
  unfold tN; split
  · exact tl_nn hp h _
  · have := tl_le hp h (1 - k).toNat; omega
theorem tD_pos {p q : Int} (hp : 1 ≤ p) (h : p < q) (k : Int) : 1 ≤ tD p q k := by
  unfold tD; split <;> exact shD_pos hp h _
/-- a tail is the next one and a share more -/
theorem tl_step {p q : Int} (hp : 1 ≤ p) (h : p < q) (k : Int) : (shN p q k.natAbs * tD p q (k + 1) + tN p q (k + 1) * shD p q k.natAbs) * tD p q k = tN p q k * (shD p q k.natAbs * tD p q (k + 1)) := by
  unfold tN tD
  by_cases c : 0 ≤ k
  · obtain ⟨n, rfl⟩ := Int.eq_ofNat_of_zero_le c
    have e1 : (0 : Int) ≤ (n : Int) + 1 := by omega
    have e2 : ((n : Int) + 1).toNat = n + 1 := by omega
    simp only [if_pos c, if_pos e1, e2, Int.natAbs_natCast, Int.toNat_natCast]
    unfold tlN shD shN
    rw [Int.pow_succ, Int.pow_succ]
    generalize p ^ n = x
    generalize q ^ n = y
    grind
  · obtain ⟨n, hn⟩ : ∃ n : Nat, k = -((n : Int) + 1) := ⟨(-k - 1).toNat, by omega⟩
    have e0 : k.natAbs = n + 1 := by omega
    have e1 : (1 - k).toNat = n + 2 := by omega
    rw [e0]
    simp only [if_neg c, e1]
    by_cases d : 0 ≤ k + 1
    · have e2 : n = 0 := by omega
      have e3 : (k + 1).toNat = 0 := by omega
      subst e2
      simp only [if_pos d, e3]
      unfold tlN shD shN
      simp only [Nat.zero_add, Int.pow_zero, Int.pow_one, Int.pow_succ]
      grind
    · have e4 : (1 - (k + 1)).toNat = n + 1 := by omega
      simp only [if_neg d, e4]
      unfold tlN shD shN
      rw [show n + 2 = n + 1 + 1 from rfl, Int.pow_succ p (n + 1), Int.pow_succ q (n + 1)]
      generalize p ^ (n + 1) = x
      generalize q ^ (n + 1) = y
      grind
theorem low_le {a b : Int} (ha : a ≤ b) (hb : 1 ≤ b) : low1 a b ≤ low2 a b := Int.ediv_le_ediv (gI_pos hb) ha
theorem step_gcd {x y : Int} (hx : 0 ≤ x) (hy : 0 < y) : gI y (x % y) = gI x y := by
  obtain ⟨m, rfl⟩ := Int.eq_ofNat_of_zero_le hx
  obtain ⟨n, rfl⟩ := Int.eq_ofNat_of_zero_le (Int.le_of_lt hy)
  unfold gI
  rw [← Int.natCast_emod, Int.toNat_natCast, Int.toNat_natCast, Int.toNat_natCast, Nat.gcd_comm m n, Nat.gcd_rec n m, Nat.gcd_comm]
theorem gcd_end {x : Int} (hx : 0 ≤ x) : gI x 0 = x := by
  unfold gI
  simp
  omega
theorem gI_le {a b : Int} (hb : 1 ≤ b) : gI a b ≤ b := by
  have : Nat.gcd a.toNat b.toNat ≤ b.toNat := Nat.gcd_le_right _ (by omega)
  unfold gI; omega
theorem pow9 {a : Int} {n : Nat} (h0 : 0 ≤ a) (h9 : a ≤ 9) (hn : n ≤ 21) : 0 ≤ a ^ n ∧ a ^ n < 2 ^ 67 := by
  refine ⟨Int.pow_nonneg h0, ?_⟩
  have h1 := pow_le h0 h9 n
  obtain ⟨m, hm⟩ : ∃ m, n + m = 21 := ⟨21 - n, by omega⟩
  have h2 : (9 : Int) ^ 21 = 9 ^ n * 9 ^ m := by rw [← hm, Int.pow_add]
  have h3 : (1 : Int) ≤ 9 ^ m := by have : (0 : Int) < 9 ^ m := Int.pow_pos (by decide); omega
  have h4 : (0 : Int) ≤ 9 ^ n := Int.pow_nonneg (by decide)
  have h5 : (9 : Int) ^ n * 1 ≤ 9 ^ n * 9 ^ m := Int.mul_le_mul_of_nonneg_left h3 h4
  have h6 : (9 : Int) ^ 21 < 2 ^ 67 := by decide
  omega
theorem mul_bd {a b : Int} {m n : Nat} (a0 : 0 ≤ a) (a1 : a < 2 ^ m) (b0 : 0 ≤ b) (b1 : b < 2 ^ n) : 0 ≤ a * b ∧ a * b < 2 ^ (m + n) := by
  refine ⟨Int.mul_nonneg a0 b0, ?_⟩
  rw [Int.pow_add]
  have hp : (0 : Int) < 2 ^ n := Int.pow_pos (by decide)
  have h1 : a * b ≤ a * 2 ^ n := Int.mul_le_mul_of_nonneg_left (Int.le_of_lt b1) a0
  have h2 : a * 2 ^ n < 2 ^ m * 2 ^ n := Int.mul_lt_mul_of_pos_right a1 hp
  omega
/-! ### steepnesses and the promises -/
structure Steep (p q : Int) : Prop where
  p1 : 1 ≤ p
  pq : p < q
  q9 : q ≤ 9
def TupAt (H : Hp) (p : Addr) (a b : Int) : Prop := H p = some (.tup [.int a, .int b])
theorem ix0 (a b : Int) : atI [V.int a, V.int b] 0 = some (.int a) := rfl
theorem ix1 (a b : Int) : atI [V.int a, V.int b] 1 = some (.int b) := rfl
def lowI (a b : Int) : List V := [.int (low1 a b), .int (low2 a b)]
/-- at least 0 and below 2^72 -/
def B72 (a : Int) : Prop := 0 ≤ a ∧ a < 2 ^ 180
theorem B72.below {a : Int} (h : B72 a) : Below a := ⟨by have := h.1; omega, by have := h.2; omega⟩
theorem sh_bd {p q : Int} (s : Steep p q) {n : Nat} (hn : n ≤ 21) : B72 (shN p q n) ∧ B72 (shD p q n) ∧ B72 (tlN p q n) := by
  obtain ⟨h1, h2, h3⟩ := s
  have e1 := pow9 (a := p) (by omega) (by omega) hn
  have e2 := pow9 (a := q) (by omega) (by omega) hn
  have q1 := mul_bd (a := q - p) (m := 5) (by omega) (by omega) e1.1 e1.2
  have q2 := mul_bd (a := q + p) (m := 5) (by omega) (by omega) e2.1 e2.2
  have q3 := mul_bd (a := q) (m := 5) (by omega) (by omega) e1.1 e1.2
  have up : (2 : Int) ^ (5 + 67) < 2 ^ 180 := by decide
  exact ⟨⟨q1.1, Int.lt_trans q1.2 up⟩, ⟨q2.1, Int.lt_trans q2.2 up⟩, ⟨q3.1, Int.lt_trans q3.2 up⟩⟩
theorem low_bd {a b : Int} (ha : B72 a) (hb : B72 b) (h1 : 1 ≤ b) : B72 (low1 a b) ∧ B72 (low2 a b) := by
  have q1 := low1_nonneg (b := b) ha.1
  have q2 := low2_pos (a := a) h1
  have q3 := low1_le ha.1 h1
  have q4 := low2_le (a := a) h1
  have := ha.2; have := hb.2
  exact ⟨⟨q1, by omega⟩, ⟨by omega, by omega⟩⟩
theorem steep_low {a b : Int} (h1 : 1 ≤ a) (h2 : a < b) (h3 : b ≤ 9) : Steep (low1 a b) (low2 a b) := by
  have r := low_ratio (a := a) (b := b) (by omega) (by omega)
  have q1 := low1_nonneg (a := a) (b := b) (by omega)
  have q2 := low2_pos (a := a) (b := b) (by omega)
  have q4 := low2_le (a := a) (b := b) (by omega)
  refine ⟨?_, ?_, by omega⟩
  · by_cases z : 1 ≤ low1 a b
    · exact z
    · have e : low1 a b = 0 := by omega
      rw [e, Int.zero_mul] at r
      have := Int.mul_pos (show 0 < a by omega) (show 0 < low2 a b by omega)
      omega
  · by_cases z : low1 a b < low2 a b
    · exact z
    · have e1 : low2 a b * b ≤ low1 a b * b := Int.mul_le_mul_of_nonneg_right (by omega) (by omega)
      have e2 : a * low2 a b < b * low2 a b := Int.mul_lt_mul_of_pos_right h2 (by omega)
      rw [Int.mul_comm b] at e2
      omega
theorem tup_out {H H' : Hp} {d l p : Addr} {xs : List V} (D : Deal H d l) (o : Out d l H H') (h : H p = some (.tup xs)) : H' p = some (.tup xs) := by
  obtain ⟨sd, n, ls, D⟩ := D
  exact o _ _ h (ne_of h D.dc (by intro z; cases z)) (ne_of h D.lc (by intro z; cases z))
def spGcd : Sp := fun vs H Q _ => ∃ a b : Int, vs = [.int a, .int b] ∧ 0 ≤ a ∧ 0 ≤ b ∧ Q (.int (gI a b)) H
def spLow : Sp := fun vs H Q _ => ∃ a b : Int, vs = [.int a, .int b] ∧ 0 ≤ a ∧ 1 ≤ b ∧ b < 2 ^ 200 * 2 ^ 200 ∧ ∀ p, H p = none → Q (.ref p) (upd H p (.tup (lowI a b)))
def spTimes : Sp := fun vs H Q _ => ∃ (p q : Addr) (a b c d : Int), vs = [.ref p, .ref q] ∧ TupAt H p a b ∧ TupAt H q c d ∧ B72 a ∧ B72 b ∧ B72 c ∧ B72 d ∧ 1 ≤ b ∧ 1 ≤ d ∧ ∀ r, H r = none → Q (.ref r) (upd H r (.tup (lowI (a * c) (b * d))))
def spMinus : Sp := fun vs H Q _ => ∃ (p q : Addr) (a b c d : Int), vs = [.ref p, .ref q] ∧ TupAt H p a b ∧ TupAt H q c d ∧ B72 a ∧ B72 b ∧ B72 c ∧ B72 d ∧ 1 ≤ b ∧ 1 ≤ d ∧ c * b ≤ a * d ∧ ∀ r, H r = none → Q (.ref r) (upd H r (.tup (lowI (a * d - c * b) (b * d))))
def spPow : Sp := fun vs H Q _ => ∃ (p : Addr) (a b k : Int), vs = [.ref p, .int k] ∧ TupAt H p a b ∧ 0 ≤ a ∧ a ≤ 9 ∧ 0 ≤ b ∧ b ≤ 9 ∧ 0 ≤ k ∧ k ≤ 21 ∧ ∀ r, H r = none → Q (.ref r) (upd H r (.tup [.int (a ^ k.toNat), .int (b ^ k.toNat)]))
/-- a new fraction of the steepness at st -/
def spFr (lo hi : Int) (f g : Int → Int → Int → Int) : Sp := fun vs H Q _ => ∃ (st : Addr) (p q k : Int), vs = [.ref st, .int k] ∧ TupAt H st p q ∧ Steep p q ∧ lo ≤ k ∧ k ≤ hi ∧
  ∀ H' r, Same H H' → TupAt H' r (low1 (f p q k) (g p q k)) (low2 (f p q k) (g p q k)) → Q (.ref r) H'
def spLPow : Sp := fun vs H Q _ => ∃ (a k : Int), vs = [.int a, .int k] ∧ 0 ≤ a ∧ a ≤ 9 ∧ 0 ≤ k ∧ k ≤ 21 ∧ Q (.int (a ^ k.toNat)) H
def spLaw (K : PySem.W.Frag) : Sp := fun vs H Q _ => ∃ (a : Addr) (ns : List Int), vs = [.ref a] ∧ SqL K H a (ns.map V.int) ∧ ns.length ≤ 63 ∧ ∀ H', Q (.bl true) H'

/-! ### two lists, item by item -/
def cutI (n lo hi : Int) : Int := if hi < (if lo > n then lo else n) then hi else (if lo > n then lo else n)
theorem cut_in {n lo hi : Int} (h : lo ≤ hi) : lo ≤ cutI n lo hi ∧ cutI n lo hi ≤ hi := by
  unfold cutI
  split <;> split <;> omega
def Two {α : Type} (R : V → α → Prop) : List V → List α → Prop
  | [], [] => True
  | v :: vs, a :: as => R v a ∧ Two R vs as
  | _, _ => False
theorem Two.mono {α : Type} {R R' : V → α → Prop} (h : ∀ v a, R v a → R' v a) : ∀ {vs : List V} {as : List α}, Two R vs as → Two R' vs as
  | [], [], _ => trivial
  | _ :: _, _ :: _, ⟨e, r⟩ => ⟨h _ _ e, Two.mono h r⟩
  | [], _ :: _, z => z.elim
  | _ :: _, [], z => z.elim
theorem Two.append {α : Type} {R : V → α → Prop} : ∀ {vs ws : List V} {as bs : List α}, Two R vs as → Two R ws bs → Two R (vs ++ ws) (as ++ bs)
  | [], _, [], _, _, r => r
  | _ :: _, _, _ :: _, _, ⟨e, r⟩, r2 => ⟨e, Two.append r r2⟩
  | [], _, _ :: _, _, z, _ => z.elim
  | _ :: _, _, [], _, z, _ => z.elim
theorem Two.length {α : Type} {R : V → α → Prop} : ∀ {vs : List V} {as : List α}, Two R vs as → vs.length = as.length
  | [], [], _ => rfl
  | _ :: _, _ :: _, ⟨_, r⟩ => by simp [Two.length r]
  | [], _ :: _, z => z.elim
  | _ :: _, [], z => z.elim
theorem Two.rep {α : Type} {R : V → α → Prop} {K : PySem.W.Frag} {H : Hp} {f : α → PyData} (h : ∀ v a, R v a → RepD K H (f a) v) : ∀ {vs : List V} {as : List α}, Two R vs as → RepL K H (as.map f) vs
  | [], [], _ => rfl
  | _ :: _, _ :: _, ⟨e, r⟩ => ⟨_, _, rfl, h _ _ e, Two.rep h r⟩
  | [], _ :: _, z => z.elim
  | _ :: _, [], z => z.elim
def TS (H H' : Hp) : Prop := ∀ a xs, H a = some (.tup xs) → H' a = some (.tup xs)
theorem TS.of {H H' : Hp} (s : Same H H') : TS H H' := fun _ _ e => s _ _ e
theorem TS.trans {H H1 H2 : Hp} (a : TS H H1) (b : TS H1 H2) : TS H H2 := fun c o h => b c o (a c o h)
theorem TS.lst {H : Hp} {l : Addr} {xs ys : List V} (h : H l = some (.lst xs)) : TS H (upd H l (.lst ys)) := fun a o e => by
  rw [upd_ne (ne_of e h (by intro z; cases z))]; exact e
theorem TS.out {H H' : Hp} {d l : Addr} (D : Deal H d l) (o : Out d l H H') : TS H H' := fun p xs h => tup_out D o h
theorem same_lst {H H1 : Hp} {l : Addr} {ys : List V} (s : Same H H1) (h : H l = none) : Same H (upd H1 l (.lst ys)) := fun b o e => by
  rw [upd_ne (ne_of_none e h)]; exact s b o e
theorem take_snoc {α : Type} {l : List α} {i : Nat} {x : α} (h : l[i]? = some x) : l.take (i + 1) = l.take i ++ [x] := by
  rw [List.take_succ, h]
  rfl
/-! ### tables: rung, top, bottom -/
def Ent (H : Hp) (v : V) (e : Int × Int × Int) : Prop := ∃ p q, v = .ref p ∧ H p = some (.tup [.int e.1, .ref q]) ∧ TupAt H q e.2.1 e.2.2
theorem Ent.ts {H H' : Hp} {v : V} {e : Int × Int × Int} (t : TS H H') (h : Ent H v e) : Ent H' v e := let ⟨p, q, a, b, c⟩ := h; ⟨p, q, a, t _ _ b, t _ _ c⟩
theorem tab_ts {H H' : Hp} {vs : List V} {es : List (Int × Int × Int)} (t : TS H H') (h : Two (Ent H) vs es) : Two (Ent H') vs es := h.mono fun _ _ z => z.ts t
def entD (e : Int × Int × Int) : PyData := .tuple [.int e.1, fracD e.2.1 e.2.2]
theorem ent_rep {K : PySem.W.Frag} {H : Hp} {v : V} {e : Int × Int × Int} (h : Ent H v e) : RepD K H (entD e) v := by
  obtain ⟨p, q, a, b, c⟩ := h
  exact ⟨p, _, a, SqT.of b, _, _, rfl, rfl, _, _, rfl, frac_rep c, rfl⟩
def tabD (es : List (Int × Int × Int)) : PyData := .tuple (es.map entD)
theorem tt_len (ts : List Str) : (tupleText ts).length ≤ piled ts + 3 := by
  by_cases h : ts = []
  · subst h; decide
  · have e3 := join_length_add ts h
    unfold tupleText
    rw [strLen_append, strLen_append]
    have e4 : ((("(" : String) : Str)).length = 1 := rfl
    have e5 : (((if ts.length == 1 then ",)" else ")" : String) : Str)).length ≤ 2 := by split <;> decide
    omega
structure Small (e : Int × Int × Int) : Prop where
  a : Below e.1
  b : Below e.2.1
  c : Below e.2.2
theorem ent_len {e : Int × Int × Int} (h : Small e) : (entD e).shown.length ≤ 6000 := by
  have e1 := PyProof.Rows.int_text_len_1921 h.a.log
  have e2 := PyProof.Rows.int_text_len_1921 h.b.log
  have e3 := PyProof.Rows.int_text_len_1921 h.c.log
  have t2 := tt_len [Str.ofString (toString e.2.1), Str.ofString (toString e.2.2)]
  have t1 := tt_len [Str.ofString (toString e.1), tupleText [Str.ofString (toString e.2.1), Str.ofString (toString e.2.2)]]
  rw [piled_cons, piled_cons, piled_nil] at t1 t2
  show (tupleText [Str.ofString (toString e.1), tupleText [Str.ofString (toString e.2.1), Str.ofString (toString e.2.2)]]).length ≤ 6000
  omega
theorem tab_all : ∀ es : List (Int × Int × Int), (∀ e ∈ es, Small e) → PyData.showableAll (es.map entD) = true ∧ PyData.hasDictAll (es.map entD) = false ∧ PyData.depthAll (es.map entD) ≤ 2 ∧ piled (PyData.shownAll (es.map entD)) ≤ es.length * 6002
  | [], _ => ⟨rfl, rfl, by decide, Nat.le_refl _⟩
  | e :: r, h => by
    have he := h e List.mem_cons_self
    obtain ⟨a, b, c, d⟩ := tab_all r fun x hx => h x (List.mem_cons_of_mem _ hx)
    have l := ent_len he
    refine ⟨?_, ?_, ?_, ?_⟩
    · simp only [List.map_cons, PyData.showableAll, a, Bool.and_true]
      simp [entD, fracD, PyData.showable, PyData.showableAll, he.a.log, he.b.log, he.c.log]
    · simp only [List.map_cons, PyData.hasDictAll, b, Bool.or_false]
      rfl
    · simp only [List.map_cons, PyData.depthAll, entD, fracD, PyData.depth]
      omega
    · simp only [List.map_cons, PyData.shownAll]
      rw [piled_cons, List.length_cons]
      omega
theorem tab_show {es : List (Int × Int × Int)} (h : ∀ e ∈ es, Small e) (hl : es.length ≤ 1000) : (tabD es).showable = true ∧ (tabD es).hasDict = false ∧ (tabD es).depth ≤ 64 ∧ (tabD es).shown.length ≤ sizeLine := by
  obtain ⟨a, b, c, d⟩ := tab_all es h
  refine ⟨by simp only [tabD, PyData.showable, a], by simp only [tabD, PyData.hasDict, b], by simp only [tabD, PyData.depth]; omega, ?_⟩
  have t := tt_len (PyData.shownAll (es.map entD))
  show (tupleText (PyData.shownAll (es.map entD))).length ≤ sizeLine
  rw [sizeLine_eq]
  have : es.length * 6002 ≤ 1000 * 6002 := Nat.mul_le_mul_right _ hl
  omega
/-! ### a ladder's table -/
def eN (p q lo hi n y : Int) : Int := if y = lo ∨ y = hi then tlN p q (y - n).natAbs else shN p q (y - n).natAbs
def eD (p q n y : Int) : Int := shD p q (y - n).natAbs
def ent (p q lo hi n y : Int) : Int × Int × Int := (y, low1 (eN p q lo hi n y) (eD p q n y), low2 (eN p q lo hi n y) (eD p q n y))
def tableI (p q lo hi n : Int) : List (Int × Int × Int) := if lo = hi then [(lo, 1, 1)] else (rangeI lo (hi + 1 - lo).toNat).map (ent p q lo hi n)
theorem rangeI_cons (lo : Int) : ∀ n : Nat, rangeI lo (n + 1) = lo :: rangeI (lo + 1) n
  | 0 => by simp [rangeI]
  | n + 1 => by
    rw [rangeI_succ, rangeI_cons lo n, rangeI_succ]
    simp
    omega
theorem range_parts {lo hi : Int} (h : lo < hi) : rangeI lo (hi + 1 - lo).toNat = [lo] ++ rangeI (lo + 1) (hi - (lo + 1)).toNat ++ [hi] := by
  obtain ⟨m, hm⟩ : ∃ m : Nat, hi = lo + 1 + m := ⟨(hi - lo - 1).toNat, by omega⟩
  subst hm
  have e1 : (lo + 1 + (m : Int) + 1 - lo).toNat = m + 1 + 1 := by omega
  have e2 : (lo + 1 + (m : Int) - (lo + 1)).toNat = m := by omega
  rw [e1, e2, rangeI_succ, rangeI_cons]
  simp
  omega
def lawSh (p q lo hi n y : Int) : Int := p ^ (y - n).natAbs * q ^ (hi - lo - ((y - n).natAbs : Int)).toNat * (if y = lo ∨ y = hi then q else q - p)
def sharesI (p q lo hi n : Int) : List Int := if lo = hi then [1] else (rangeI lo (hi + 1 - lo).toNat).map (lawSh p q lo hi n)
def botI (p q lo hi : Int) : Int := if lo = hi then 1 else shD p q (hi - lo).toNat
def tabL (b : Int) : Int → List Int → List (Int × Int × Int)
  | _, [] => []
  | f, s :: r => (f, low1 s b, low2 s b) :: tabL b (f + 1) r
theorem tabL_snoc (b : Int) : ∀ (f : Int) (l : List Int) (s : Int), tabL b f (l ++ [s]) = tabL b f l ++ [(f + l.length, low1 s b, low2 s b)]
  | f, [], s => by simp [tabL]
  | f, a :: r, s => by
    simp only [List.cons_append, tabL, tabL_snoc b (f + 1) r s, List.length_cons]
    have e : f + 1 + (r.length : Int) = f + ((r.length + 1 : Nat) : Int) := by omega
    rw [e]
theorem tabL_map (b : Int) (g : Int → Int) (lo : Int) : ∀ m : Nat, tabL b lo ((rangeI lo m).map g) = (rangeI lo m).map fun y => (y, low1 (g y) b, low2 (g y) b)
  | 0 => rfl
  | m + 1 => by
    rw [rangeI_succ, List.map_append, List.map_append]
    show tabL b lo (_ ++ [g (lo + m)]) = _
    rw [tabL_snoc, tabL_map b g lo m, List.length_map, rangeI_len]
    rfl
theorem eN_nn {p q lo hi n y : Int} (s : Steep p q) : 0 ≤ eN p q lo hi n y := by
  unfold eN; split
  · exact tl_nn s.p1 s.pq _
  · exact sh_nn s.p1 s.pq _
theorem law_nn {p q lo hi n y : Int} (s : Steep p q) : 1 ≤ lawSh p q lo hi n y := by
  unfold lawSh
  have h1 : (0 : Int) < p ^ (y - n).natAbs := Int.pow_pos (by have := s.p1; omega)
  have h2 : (0 : Int) < q ^ (hi - lo - ((y - n).natAbs : Int)).toNat := Int.pow_pos (by have := s.p1; have := s.pq; omega)
  have h3 : (0 : Int) < (if y = lo ∨ y = hi then q else q - p) := by have := s.p1; have := s.pq; split <;> omega
  have := Int.mul_pos (Int.mul_pos h1 h2) h3
  omega
theorem law_low {p q lo hi n y : Int} (s : Steep p q) (h1 : lo ≤ n) (h2 : n ≤ hi) (h3 : lo ≤ y) (h4 : y ≤ hi) :
    low1 (lawSh p q lo hi n y) (shD p q (hi - lo).toNat) = low1 (eN p q lo hi n y) (eD p q n y) ∧ low2 (lawSh p q lo hi n y) (shD p q (hi - lo).toNat) = low2 (eN p q lo hi n y) (eD p q n y) := by
  have q1 := law_nn (lo := lo) (hi := hi) (n := n) (y := y) s
  refine low_eq (by omega) (shD_pos s.p1 s.pq _) (eN_nn s) (shD_pos s.p1 s.pq _) ?_
  obtain ⟨f, hf⟩ : ∃ f : Nat, (y - n).natAbs = f := ⟨_, rfl⟩
  obtain ⟨g, hg⟩ : ∃ g : Nat, (hi - lo - (f : Int)).toNat = g := ⟨_, rfl⟩
  have hw : (hi - lo).toNat = f + g := by omega
  unfold lawSh eN eD shD tlN shN
  rw [hf, hg, hw, Int.pow_add]
  generalize p ^ f = a
  generalize q ^ f = b
  generalize q ^ g = c
  split <;> grind
theorem law_table {p q lo hi n : Int} (s : Steep p q) (h1 : lo ≤ n) (h2 : n ≤ hi) : tabL (botI p q lo hi) lo (sharesI p q lo hi n) = tableI p q lo hi n := by
  unfold botI sharesI tableI
  by_cases c : lo = hi
  · simp only [if_pos c]
    have e1 : low1 1 1 = 1 := by decide
    have e2 : low2 1 1 = 1 := by decide
    simp only [tabL, e1, e2]
  · simp only [if_neg c]
    rw [tabL_map]
    refine List.map_congr_left fun y hy => ?_
    obtain ⟨y1, y2⟩ := mem_rangeI.mp hy
    have e := law_low s h1 h2 y1 (by omega)
    unfold ent
    rw [e.1, e.2]
def dotI (xs ys : List Int) : Int := (List.zipWith (· * ·) xs ys).sum
theorem dot_comm : ∀ xs ys : List Int, dotI xs ys = dotI ys xs
  | [], [] => rfl
  | [], _ :: _ => rfl
  | _ :: _, [] => rfl
  | x :: xs, y :: ys => by
    have := dot_comm xs ys
    unfold dotI at this ⊢
    simp only [List.zipWith_cons_cons, List.sum_cons, this, Int.mul_comm x y]
/-! ### the promises -/
def IntsAt (H : Hp) (a : Addr) (ns : List Int) : Prop := H a = some (.tup (ns.map V.int))
structure Wts (ws cs : List Int) : Prop where
  len : ws.length = cs.length
  few : ws.length ≤ 3
  wt : ∀ x ∈ ws, 0 ≤ x ∧ x ≤ 3
structure Ends (lo hi : Int) : Prop where
  a : 0 ≤ lo
  b : lo ≤ hi
  c : hi ≤ 9
def spCut : Sp := fun vs H Q _ => ∃ n lo hi : Int, vs = [.int n, .int lo, .int hi] ∧ Q (.int (cutI n lo hi)) H
def spUp : Sp := fun vs H Q _ => ∃ a b ws cs, vs = [.ref a, .ref b] ∧ IntsAt H a ws ∧ IntsAt H b cs ∧ Wts ws cs ∧ ∀ H', Same H H' → Q (.int (dotI ws cs)) H'
def spLad : Sp := fun vs H Q _ => ∃ st p q n lo hi, vs = [.int n, .ref st, .int lo, .int hi] ∧ TupAt H st p q ∧ Steep p q ∧ Ends lo hi ∧ lo ≤ n ∧ n ≤ hi ∧ ∀ H' t us, Same H H' → H' t = some (.tup us) → Two (Ent H') us (tableI p q lo hi n) → Q (.ref t) H'
def spName : Sp := fun vs H Q _ => ∃ d l, vs = [.ref d] ∧ Deal H d l ∧ ∀ x H', Deal H' d l → Out d l H H' → Q (.str x) H'
def spCrowd : Sp := fun vs H Q _ => ∃ d l k, vs = [.ref d, .int k] ∧ Deal H d l ∧ 1 ≤ k ∧ k ≤ 3 ∧ ∀ r cs H', IntsAt H' r cs → cs.length = k.toNat → Deal H' d l → Out d l H H' → Q (.ref r) H'
def spSum : Sp := fun vs H Q _ => ∃ d l k, vs = [.ref d, .int k] ∧ Deal H d l ∧ 1 ≤ k ∧ k ≤ 3 ∧ ∀ r ws H', IntsAt H' r ws → ws.length = k.toNat → (∀ x ∈ ws, 0 ≤ x ∧ x ≤ 3) → Deal H' d l → Out d l H H' → Q (.ref r) H'
def spLNum : Sp := fun vs H Q _ => ∃ w c ws cs lo hi, vs = [.ref w, .ref c, .int lo, .int hi] ∧ IntsAt H w ws ∧ IntsAt H c cs ∧ Wts ws cs ∧ ∀ H', Same H H' → Q (.int (cutI (dotI ws cs) lo hi)) H'
def spRungs : Sp := fun vs H Q _ => ∃ st p q n lo hi, vs = [.ref st, .int n, .int lo, .int hi] ∧ TupAt H st p q ∧ Steep p q ∧ Ends lo hi ∧ lo ≤ n ∧ n ≤ hi ∧
  ∀ H' r ls, Same H H' → H' r = some (.tup [.ref ls, .int (botI p q lo hi)]) → H' ls = some (.lst ((sharesI p q lo hi n).map V.int)) → Q (.ref r) H'
theorem str_at {z : Str} {r : Int} (h0 : 0 ≤ r) (h1 : r < (z.length : Int)) : ∃ c, atI z.cps.toList r = some c := by
  have hk : r.toNat < z.cps.toList.length := by
    rw [Array.length_toList]
    exact (Int.toNat_lt h0).mpr h1
  have e2 : ((r.toNat : Nat) : Int) = r := Int.toNat_of_nonneg h0
  have q : atI z.cps.toList ((r.toNat : Nat) : Int) = some z.cps.toList[r.toNat] := atI_nat (List.getElem?_eq_getElem hk)
  rw [e2] at q
  exact ⟨_, q⟩
theorem ones_sum : ∀ {zs : List Str}, (∀ z ∈ zs, z.length = 1) → (zs.map (·.length)).sum = zs.length
  | [], _ => rfl
  | z :: r, h => by
    have h1 := h z List.mem_cons_self
    have h2 := ones_sum fun y hy => h y (List.mem_cons_of_mem z hy)
    simp only [List.map_cons, List.sum_cons, List.length_cons, h1, h2]
    omega
theorem glued_fold (sep : Str) : ∀ (ys : List Str) (a : Array Nat), (ys.foldl (fun acc p => acc ++ sep.cps ++ p.cps) a).size = a.size + (ys.map (·.length)).sum + ys.length * sep.length
  | [], a => by simp
  | y :: r, a => by
    rw [List.foldl_cons, glued_fold sep r]
    simp only [Array.size_append, List.map_cons, List.sum_cons, List.length_cons, Nat.add_mul, Nat.one_mul]
    have e1 : sep.cps.size = sep.length := rfl
    have e2 : y.cps.size = y.length := rfl
    omega
theorem join_len (sep : Str) (ys : List Str) : (Txt.join sep ys).length ≤ (ys.map (·.length)).sum + ys.length * sep.length := by
  cases ys with
  | nil => exact Nat.zero_le _
  | cons y r =>
    show (List.foldl (fun acc p => acc ++ sep.cps ++ p.cps) y.cps r).size ≤ _
    rw [glued_fold]
    simp only [List.map_cons, List.sum_cons, List.length_cons, Nat.add_mul, Nat.one_mul]
    have e2 : y.cps.size = y.length := rfl
    omega
theorem two_at {r x y : Int} (h0 : 0 ≤ r) (h1 : r < 2) : ∃ z, atI [V.int x, V.int y] r = some (.int z) ∧ (z = x ∨ z = y) := by
  have : r = 0 ∨ r = 1 := by omega
  rcases this with rfl | rfl
  · exact ⟨x, rfl, .inl rfl⟩
  · exact ⟨y, rfl, .inr rfl⟩
def taken : List Str := ["kinds", "ladder", "flat", "choose", "first", "let", "tell", "when", "else", "times", "end", "of"]
theorem flat_strs : ∀ xs : List Str, (xs.map V.str).all flatV = true
  | [] => rfl
  | _ :: r => flat_strs r
/-- a deal and a list of ours -/
structure DealL (H : Hp) (d l ls : Addr) (ts : List V) : Prop where
  deal : Deal H d l
  ne : ls ≠ l
  lst : H ls = some (.lst ts)
theorem DealL.new {H : Hp} {d l ls : Addr} (D : Deal H d l) (h : H ls = none) : DealL (upd H ls (.lst [])) d l ls [] := by
  obtain ⟨sd, n, l', q⟩ := id D
  exact ⟨D.same (same_new h _), (ne_of_none q.lc h).symm, upd_same⟩
theorem DealL.out {H H' : Hp} {d l ls : Addr} {ts : List V} (S : DealL H d l ls ts) (D : Deal H' d l) (o : Out d l H H') : DealL H' d l ls ts := by
  refine ⟨D, S.ne, ?_⟩
  obtain ⟨sd, n, l', q⟩ := S.deal
  exact o _ _ S.lst (ne_of S.lst q.dc (by intro z; cases z)) S.ne
theorem DealL.same {H H' : Hp} {d l ls : Addr} {ts : List V} (S : DealL H d l ls ts) (s : Same H H') : DealL H' d l ls ts := ⟨S.deal.same s, S.ne, s _ _ S.lst⟩
theorem DealL.app {H : Hp} {d l ls : Addr} {ts : List V} (S : DealL H d l ls ts) (us : List V) : DealL (upd H ls (.lst us)) d l ls us := by
  refine ⟨?_, S.ne, upd_same⟩
  obtain ⟨sd, n, l', q⟩ := S.deal
  exact ⟨sd, n, l', ⟨by rw [upd_ne (ne_of q.dc S.lst (by intro z; cases z))]; exact q.dc, by rw [upd_ne S.ne.symm]; exact q.lc, q.s0, q.s1, q.n0, q.l0⟩⟩
theorem shares_pos {p q lo hi n : Int} (s : Steep p q) : ∀ z ∈ sharesI p q lo hi n, 1 ≤ z := by
  unfold sharesI
  intro z hz
  split at hz
  · have e : z = 1 := by simpa using hz
    omega
  · obtain ⟨y, _, rfl⟩ := List.mem_map.mp hz
    exact law_nn s
end Mine
namespace Mine
open PySem L2
/-! ### totals: a dict of fractions by whole numbers -/
def Fr72 (u : Int × Int) : Prop := B72 u.1 ∧ B72 u.2 ∧ 1 ≤ u.2
def addF (u e : Int × Int) : Int × Int := (low1 (u.1 * e.2 + e.1 * u.2) (u.2 * e.2), low2 (u.1 * e.2 + e.1 * u.2) (u.2 * e.2))
def stepT (T : Int → Option (Int × Int)) (e : Int × Int × Int) : Int → Option (Int × Int) := fun k => if k = e.1 then some (addF ((T k).getD (0, 1)) e.2) else T k
def totF (es : List (Int × Int × Int)) : Int → Option (Int × Int) := es.foldl stepT (fun _ => none)
def Safe : (Int → Option (Int × Int)) → List (Int × Int × Int) → Prop
  | _, [] => True
  | T, e :: r => Fr72 ((T e.1).getD (0, 1)) ∧ Fr72 e.2 ∧ Safe (stepT T e) r
theorem safe_at : ∀ {es : List (Int × Int × Int)} {T : Int → Option (Int × Int)} {i : Nat} {e : Int × Int × Int}, Safe T es → es[i]? = some e → Fr72 ((((es.take i).foldl stepT T) e.1).getD (0, 1)) ∧ Fr72 e.2
  | [], _, _, _, _, h => by simp at h
  | a :: r, T, 0, e, ⟨s1, s2, _⟩, h => by
    have q : a = e := by simpa using h
    subst q
    exact ⟨s1, s2⟩
  | a :: r, T, i + 1, e, ⟨_, _, s3⟩, h => by
    have := safe_at (i := i) s3 (by simpa using h)
    simpa using this
theorem fold_snoc {es : List (Int × Int × Int)} {i : Nat} {e : Int × Int × Int} {T : Int → Option (Int × Int)} (h : es[i]? = some e) : (es.take (i + 1)).foldl stepT T = stepT ((es.take i).foldl stepT T) e := by
  rw [take_snoc h, List.foldl_append]
  rfl
structure KvT (H : Hp) (kvs : List (Key × V)) (T : Int → Option (Int × Int)) : Prop where
  inl : ∀ p ∈ kvs, ∃ k : Int, p.1 = Sum.inl k
  nd : (kvs.map (·.1)).Nodup
  no : ∀ k, T k = none → valV kvs (Sum.inl k) = none
  val : ∀ k u, T k = some u → ∃ q, valV kvs (Sum.inl k) = some (.ref q) ∧ TupAt H q u.1 u.2
theorem KvT.nil {H : Hp} : KvT H [] (fun _ => none) := ⟨fun _ z => (nomatch z), List.nodup_nil, fun _ _ => rfl, fun _ _ z => (nomatch z)⟩
theorem KvT.ts {H H' : Hp} {kvs : List (Key × V)} {T : Int → Option (Int × Int)} (s : TS H H') (h : KvT H kvs T) : KvT H' kvs T := ⟨h.inl, h.nd, h.no, fun k u e => let ⟨q, a, b⟩ := h.val k u e; ⟨q, a, s _ _ b⟩⟩
theorem put_keys {kvs : List (Key × V)} {k : Key} {v : V} : (∃ x, valV kvs k = some x) → (putK kvs k v).map (·.1) = kvs.map (·.1) := by
  rintro ⟨x, hx⟩
  unfold putK
  rw [valV_any, hx]
  simp only [Option.isSome_some, if_true, List.map_map]
  refine List.map_congr_left fun p _ => ?_
  simp only [Function.comp]
  split <;> rfl
theorem KvT.put {H : Hp} {kvs : List (Key × V)} {T : Int → Option (Int × Int)} {e : Int × Int × Int} {q : Addr} (h : KvT H kvs T) (hq : TupAt H q (addF ((T e.1).getD (0, 1)) e.2).1 (addF ((T e.1).getD (0, 1)) e.2).2) :
    KvT H (putK kvs (Sum.inl e.1) (.ref q)) (stepT T e) := by
  have keys : (∀ p ∈ putK kvs (Sum.inl e.1) (V.ref q), ∃ k : Int, p.1 = Sum.inl k) ∧ ((putK kvs (Sum.inl e.1) (V.ref q)).map (·.1)).Nodup := by
    cases c : valV kvs (Sum.inl e.1) with
    | none =>
      refine ⟨fun p hp => ?_, nd_putK _ h.nd c⟩
      rw [putK_new _ c] at hp
      rcases List.mem_append.mp hp with z | z
      · exact h.inl p z
      · have : p = (Sum.inl e.1, V.ref q) := by simpa using z
        exact ⟨e.1, by rw [this]⟩
    | some x =>
      have pk := put_keys (v := V.ref q) ⟨x, c⟩
      refine ⟨fun p hp => ?_, by rw [pk]; exact h.nd⟩
      have : p.1 ∈ kvs.map (·.1) := by rw [← pk]; exact List.mem_map.mpr ⟨p, hp, rfl⟩
      obtain ⟨p', hp', e'⟩ := List.mem_map.mp this
      obtain ⟨k, hk⟩ := h.inl p' hp'
      exact ⟨k, by rw [← e', hk]⟩
  refine ⟨keys.1, keys.2, fun k hk => ?_, fun k u hk => ?_⟩
  · rw [valV_put]
    unfold stepT at hk
    by_cases c : k = e.1
    · rw [if_pos c] at hk; cases hk
    · rw [if_neg c] at hk
      rw [if_neg (fun z => c (Sum.inl.inj z))]
      exact h.no k hk
  · rw [valV_put]
    unfold stepT at hk
    by_cases c : k = e.1
    · subst c
      rw [if_pos rfl] at hk
      cases hk
      exact ⟨q, by rw [if_pos rfl], hq⟩
    · rw [if_neg c] at hk
      rw [if_neg (fun z => c (Sum.inl.inj z))]
      exact h.val k u hk
theorem val_at {kvs : List (Key × V)} : ∀ {i : Nat} {k : Key} {v : V}, (kvs.map (·.1)).Nodup → kvs[i]? = some (k, v) → valV kvs k = some v := by
  induction kvs with
  | nil => intro i k v _ h; simp at h
  | cons p r ih =>
    intro i k v hn h
    obtain ⟨h1, h2⟩ := List.nodup_cons.mp (by simpa using hn : (p.1 :: r.map (·.1)).Nodup)
    cases i with
    | zero =>
      have e : p = (k, v) := by simpa using h
      subst e
      exact valV_pos rfl
    | succ i =>
      have h' : r[i]? = some (k, v) := by simpa using h
      have hm : k ∈ r.map (·.1) := List.mem_map.mpr ⟨(k, v), List.mem_of_getElem? h', rfl⟩
      rw [valV_neg (fun e => h1 (by rw [e]; exact hm))]
      exact ih h2 h'
/-- the keys whose total is something -/
def liveK (kvs : List (Key × V)) (T : Int → Option (Int × Int)) : List Int := kvs.filterMap fun p => match p.1 with
  | .inl k => if T k = some (0, 1) then none else some k
  | .inr _ => none
theorem live_nodup {kvs : List (Key × V)} {T : Int → Option (Int × Int)} (h : (kvs.map (·.1)).Nodup) : (liveK kvs T).Nodup := by
  induction kvs with
  | nil => exact List.nodup_nil
  | cons p r ih =>
    obtain ⟨h1, h2⟩ := List.nodup_cons.mp (by simpa using h : (p.1 :: r.map (·.1)).Nodup)
    have ih := ih h2
    obtain ⟨k, v⟩ := p
    cases k with
    | inr x => exact ih
    | inl k =>
      unfold liveK at ih ⊢
      rw [List.filterMap_cons]
      by_cases c : T k = some (0, 1)
      · simp only [c, if_true]; exact ih
      · simp only [c, if_false]
        refine List.nodup_cons.mpr ⟨fun hm => ?_, ih⟩
        obtain ⟨p', hp', e'⟩ := List.mem_filterMap.mp hm
        obtain ⟨k', v'⟩ := p'
        cases k' with
        | inr x => simp at e'
        | inl k' =>
          simp only at e'
          by_cases c' : T k' = some (0, 1)
          · rw [if_pos c'] at e'; cases e'
          · rw [if_neg c'] at e'
            cases e'
            exact h1 (List.mem_map.mpr ⟨_, hp', rfl⟩)
theorem live_mem {H : Hp} {kvs : List (Key × V)} {T : Int → Option (Int × Int)} (h : KvT H kvs T) {k : Int} : k ∈ liveK kvs T ↔ ∃ u, T k = some u ∧ u ≠ (0, 1) := by
  constructor
  · intro hm
    obtain ⟨p, hp, e⟩ := List.mem_filterMap.mp hm
    obtain ⟨k', v'⟩ := p
    cases k' with
    | inr x => simp at e
    | inl k' =>
      simp only at e
      by_cases c : T k' = some (0, 1)
      · rw [if_pos c] at e; cases e
      · rw [if_neg c] at e
        cases e
        cases q : T k with
        | none =>
          have := valV_not (h.no k q)
          exact absurd (List.mem_map.mpr ⟨_, hp, rfl⟩) this
        | some u => exact ⟨u, rfl, fun z => c (by rw [q, z])⟩
  · rintro ⟨u, hu, hne⟩
    obtain ⟨q, e, _⟩ := h.val k u hu
    obtain ⟨p, hp, e'⟩ := List.mem_map.mp (valV_in e)
    refine List.mem_filterMap.mpr ⟨p, hp, ?_⟩
    obtain ⟨k', v'⟩ := p
    have e' : k' = Sum.inl k := e'
    subst e'
    have c : ¬ T k = some (0, 1) := fun z => hne (by rw [hu] at z; exact Option.some.inj z)
    simp only [c, if_false]
theorem strict_of : ∀ {l : List Int}, l.Pairwise (· ≤ ·) → l.Nodup → l.Pairwise (· < ·)
  | [], _, _ => List.Pairwise.nil
  | a :: r, h, n => by
    obtain ⟨h1, h2⟩ := List.pairwise_cons.mp h
    obtain ⟨n1, n2⟩ := List.nodup_cons.mp n
    refine List.pairwise_cons.mpr ⟨fun b hb => ?_, strict_of h2 n2⟩
    have := h1 b hb
    have : a ≠ b := fun z => n1 (by rw [z]; exact hb)
    omega
/-- a table by its keys -/
def tabOf (T : Int → Option (Int × Int)) (ks : List Int) : List (Int × Int × Int) := ks.map fun k => (k, (T k).getD (0, 1))
/-- two rising lists of the same members are one -/
theorem rise_ext : ∀ {l m : List Int}, l.Pairwise (· < ·) → m.Pairwise (· < ·) → (∀ x, x ∈ l ↔ x ∈ m) → l = m
  | [], [], _, _, _ => rfl
  | [], b :: m, _, _, h => absurd ((h b).mpr List.mem_cons_self) (by simp)
  | a :: l, [], _, _, h => absurd ((h a).mp List.mem_cons_self) (by simp)
  | a :: l, b :: m, p, q, h => by
    obtain ⟨p1, p2⟩ := List.pairwise_cons.mp p
    obtain ⟨q1, q2⟩ := List.pairwise_cons.mp q
    have e : a = b := by
      rcases List.mem_cons.mp ((h a).mp List.mem_cons_self) with z | z
      · exact z
      · rcases List.mem_cons.mp ((h b).mpr List.mem_cons_self) with w | w
        · exact w.symm
        · have := q1 a z; have := p1 b w; omega
    subst e
    have e2 : l = m := rise_ext p2 q2 fun x => by
      constructor
      · intro hx
        rcases List.mem_cons.mp ((h x).mp (List.mem_cons_of_mem _ hx)) with z | z
        · have := p1 x hx; omega
        · exact z
      · intro hx
        rcases List.mem_cons.mp ((h x).mpr (List.mem_cons_of_mem _ hx)) with z | z
        · have := q1 x hx; omega
        · exact z
    rw [e2]
def spAdd : Sp := fun vs H Q _ => ∃ (p q : Addr) (u e : Int × Int), vs = [.ref p, .ref q] ∧ TupAt H p u.1 u.2 ∧ TupAt H q e.1 e.2 ∧ Fr72 u ∧ Fr72 e ∧ ∀ r, H r = none → Q (.ref r) (upd H r (.tup [.int (addF u e).1, .int (addF u e).2]))
def spMerged : Sp := fun vs H Q _ => ∃ l us es, vs = [.ref l] ∧ H l = some (.lst us) ∧ Two (Ent H) us es ∧ es.length < 60 ∧ Safe (fun _ => none) es ∧
  ∀ H' t ws ks, Same H H' → H' t = some (.tup ws) → ks.Pairwise (· < ·) → (∀ k, k ∈ ks ↔ ∃ u, totF es k = some u ∧ u ≠ (0, 1)) → Two (Ent H') ws (tabOf (totF es) ks) → Q (.ref t) H'
end Mine
namespace Mine
open PySem L2
/-! ### how often a key comes -/
/-- a table of counts, without those of nought -/
def tabZ (b : Int) : Int → List Int → List (Int × Int × Int)
  | _, [] => []
  | f, s :: r => if 0 < s then (f, low1 s b, low2 s b) :: tabZ b (f + 1) r else tabZ b (f + 1) r
theorem tabZ_snoc (b : Int) : ∀ (f : Int) (l : List Int) (s : Int), tabZ b f (l ++ [s]) = tabZ b f l ++ (if 0 < s then [(f + l.length, low1 s b, low2 s b)] else [])
  | f, [], s => by simp [tabZ]
  | f, a :: r, s => by
    have e : f + 1 + (r.length : Int) = f + ((r.length + 1 : Nat) : Int) := by omega
    simp only [List.cons_append, tabZ, tabZ_snoc b (f + 1) r s, List.length_cons, e]
    split <;> simp
theorem tabZ_len (b : Int) : ∀ (f : Int) (l : List Int), (tabZ b f l).length ≤ l.length
  | _, [] => Nat.le_refl _
  | f, a :: r => by
    have := tabZ_len b (f + 1) r
    unfold tabZ
    split <;> simp <;> omega
theorem tabZ_map (b : Int) (g : Int → Int) (lo : Int) : ∀ m : Nat, tabZ b lo ((rangeI lo m).map g) = ((rangeI lo m).filter fun y => decide (0 < g y)).map fun y => (y, low1 (g y) b, low2 (g y) b)
  | 0 => rfl
  | m + 1 => by
    rw [rangeI_succ, List.map_append, List.filter_append, List.map_append]
    show tabZ b lo (_ ++ [g (lo + m)]) = _
    rw [tabZ_snoc, tabZ_map b g lo m, List.length_map, rangeI_len]
    by_cases c : 0 < g (lo + m) <;> simp [c]
theorem range_rise (lo : Int) : ∀ m : Nat, (rangeI lo m).Pairwise (· < ·)
  | 0 => List.Pairwise.nil
  | m + 1 => by
    rw [rangeI_succ]
    refine List.pairwise_append.mpr ⟨range_rise lo m, List.pairwise_singleton _ _, fun a ha b hb => ?_⟩
    have := mem_rangeI.mp ha
    have e : b = lo + m := by simpa using hb
    omega
/-! ### chooses -/
theorem low_fr {S P : Int} (hS : 0 ≤ S) (h1 : S < 2 ^ 180) (hP : 1 ≤ P) (h2 : P < 2 ^ 180) : Fr72 (low1 S P, low2 S P) := by
  have l := low_bd (a := S) (b := P) ⟨hS, h1⟩ ⟨by omega, h2⟩ hP
  exact ⟨l.1, l.2, low2_pos hP⟩
end Mine
namespace Mine
open PySem L2
/-! ### rows of flats and chooses, and the promises -/
def SumR (H : Hp) (v : V) (ws : List Int) : Prop := ∃ a, v = .ref a ∧ IntsAt H a ws
theorem SumR.ts {H H' : Hp} {v : V} {ws : List Int} (t : TS H H') (h : SumR H v ws) : SumR H' v ws := let ⟨a, e, q⟩ := h; ⟨a, e, t _ _ q⟩
def numsI (wss : List (List Int)) (cs : List Int) (lo hi : Int) : List Int := wss.map fun ws => cutI (dotI ws cs) lo hi
structure Few (wss : List (List Int)) (cs : List Int) : Prop where
  a : 1 ≤ wss.length
  b : wss.length ≤ 4
  w : ∀ ws ∈ wss, Wts ws cs
theorem strF {a b : Str} (h : ¬ a = b) : decide (V.str a = V.str b) = false := decide_eq_false fun z => h (V.str.inj z)
theorem strT (a : Str) : decide (V.str a = V.str a) = true := decide_eq_true rfl
def spTabZ : Sp := fun vs H Q _ => ∃ ls ss b f, vs = [.ref ls, .int b, .int f] ∧ H ls = some (.lst (ss.map V.int)) ∧ (∀ s ∈ ss, 0 ≤ s) ∧ ss.length ≤ 100 ∧ 1 ≤ b ∧ b < 2 ^ 250 ∧
  ∀ H' t us, Same H H' → H' t = some (.tup us) → Two (Ent H') us (tabZ b f ss) → Q (.ref t) H'
/-! ### what is shown -/
theorem ints_all : ∀ ns : List Int, (∀ n ∈ ns, Below n) → PyData.showableAll (ns.map PyData.int) = true ∧ PyData.hasDictAll (ns.map PyData.int) = false ∧ PyData.depthAll (ns.map PyData.int) = 0 ∧ piled (PyData.shownAll (ns.map PyData.int)) ≤ ns.length * 1923
  | [], _ => ⟨rfl, rfl, rfl, Nat.le_refl _⟩
  | n :: r, h => by
    have hn := h n List.mem_cons_self
    obtain ⟨a, b, c, d⟩ := ints_all r fun x hx => h x (List.mem_cons_of_mem _ hx)
    have l : (PyData.int n).shown.length ≤ 1921 := PyProof.Rows.int_text_len_1921 hn.log
    refine ⟨?_, ?_, ?_, ?_⟩
    · simp only [List.map_cons, PyData.showableAll, a, Bool.and_true]
      simp [PyData.showable, hn.log]
    · simp only [List.map_cons, PyData.hasDictAll, b, Bool.or_false]
      rfl
    · simp [PyData.depthAll, PyData.depth, c]
    · simp only [List.map_cons, PyData.shownAll]
      rw [piled_cons, List.length_cons]
      omega
theorem ints_show {ns : List Int} (h : ∀ n ∈ ns, Below n) (hl : ns.length ≤ 1000) : (PyData.tuple (ns.map PyData.int)).showable = true ∧ (PyData.tuple (ns.map PyData.int)).hasDict = false ∧ (PyData.tuple (ns.map PyData.int)).depth ≤ 64 ∧ (PyData.tuple (ns.map PyData.int)).shown.length ≤ sizeLine := by
  obtain ⟨a, b, c, d⟩ := ints_all ns h
  refine ⟨by simp only [PyData.showable, a], by simp only [PyData.hasDict, b], by simp only [PyData.depth]; omega, ?_⟩
  have t := tt_len (PyData.shownAll (ns.map PyData.int))
  show (tupleText (PyData.shownAll (ns.map PyData.int))).length ≤ sizeLine
  rw [sizeLine_eq]
  have : ns.length * 1923 ≤ 1000 * 1923 := Nat.mul_le_mul_right _ hl
  omega
theorem tabZ_small {b : Int} (hb : 1 ≤ b) (h1 : b < 2 ^ 180) : ∀ (f : Int) (l : List Int), 0 ≤ f → f + l.length ≤ 1000 → (∀ s ∈ l, 0 ≤ s ∧ s < 2 ^ 180) → ∀ e ∈ tabZ b f l, Small e
  | _, [], _, _, _, _, h => nomatch h
  | f, a :: r, f0, hf, hl, e, he => by
    have ha := hl a List.mem_cons_self
    rw [List.length_cons] at hf
    have ih := tabZ_small hb h1 (f + 1) r (by omega) (by omega) (fun s hs => hl s (List.mem_cons_of_mem _ hs)) e
    unfold tabZ at he
    split at he
    · rcases List.mem_cons.mp he with z | z
      · subst z
        have l := low_bd (a := a) (b := b) ha ⟨by omega, h1⟩ hb
        exact ⟨⟨by show -(2 ^ 250) < f; omega, by show f < 2 ^ 250; omega⟩, l.1.below, l.2.below⟩
      · exact ih z
    · exact ih he
theorem nums_in {wss : List (List Int)} {cs : List Int} {lo hi : Int} (e : Ends lo hi) : ∀ n ∈ numsI wss cs lo hi, lo ≤ n ∧ n ≤ hi := fun n hn => by
  obtain ⟨ws, _, rfl⟩ := List.mem_map.mp hn
  exact cut_in e.b
/-! ### what is asked -/
end Mine
namespace Mine
open PySem L2
theorem iteFb {b : Bool} {A B : Prop} (h : b = false) (x : B) : if b = true then A else B := by subst h; exact x
theorem iteTb {b : Bool} {A B : Prop} (h : b = true) (x : A) : if b = true then A else B := by subst h; exact x
theorem Two.at {α : Type} {R : V → α → Prop} : ∀ {vs : List V} {as : List α} {i : Nat} {v : V}, Two R vs as → vs[i]? = some v → ∃ a, as[i]? = some a ∧ R v a
  | [], [], _, _, _, h => by simp at h
  | v :: vs, a :: as, 0, w, ⟨h1, _⟩, h => by
    have e : v = w := by simpa using h
    subst e
    exact ⟨a, by simp, h1⟩
  | v :: vs, a :: as, i + 1, w, ⟨_, h2⟩, h => by
    obtain ⟨b, hb, r⟩ := Two.at (i := i) h2 (by simpa using h)
    exact ⟨b, by simpa using hb, r⟩
theorem same_any {H H1 : Hp} {l : Addr} {o : HO} (s : Same H H1) (h : H l = none) : Same H (upd H1 l o) := fun b u e => by
  rw [upd_ne (ne_of_none e h)]
  exact s b u e
theorem rep_zero (lo : Int) : ∀ m : Nat, (List.replicate m [V.int 0]).flatten = ((rangeI lo m).map fun _ => (0 : Int)).map V.int
  | 0 => rfl
  | m + 1 => by
    rw [List.replicate_succ', List.flatten_append, rep_zero lo m, rangeI_succ, List.map_append, List.map_append]
    rfl
theorem low1_pos {S P : Int} (hS : 1 ≤ S) (hP : 1 ≤ P) : 1 ≤ low1 S P := by
  have r := low_ratio (a := S) (by omega) hP
  have n2 := low2_pos (a := S) hP
  have a := low1_nonneg (a := S) (b := P) (by omega)
  by_cases z : low1 S P = 0
  · rw [z, Int.zero_mul] at r
    have := Int.mul_pos (show 0 < S by omega) (show 0 < low2 S P by omega)
    omega
  · omega
theorem putK_len {kvs : List (Key × V)} {k : Key} {v : V} : (putK kvs k v).length ≤ kvs.length + 1 := by
  cases c : valV kvs k with
  | none => rw [putK_new _ c, List.length_append]; exact Nat.le_refl _
  | some x =>
    have e := congrArg List.length (put_keys (v := v) ⟨x, c⟩)
    rw [List.length_map, List.length_map] at e
    omega
theorem live_snoc {kvs : List (Key × V)} {T : Int → Option (Int × Int)} {i : Nat} {k : Int} {v : V} (h : kvs[i]? = some (Sum.inl k, v)) : liveK (kvs.take (i + 1)) T = liveK (kvs.take i) T ++ (if T k = some (0, 1) then [] else [k]) := by
  rw [take_snoc h]
  unfold liveK
  rw [List.filterMap_append]
  by_cases c : T k = some (0, 1) <;> simp [c]
theorem live_len {kvs : List (Key × V)} {T : Int → Option (Int × Int)} : (liveK kvs T).length ≤ kvs.length := List.length_filterMap_le _ _
theorem same_pair (a b c d : Int) : Spec.same (.tuple [.int a, .int b]) (.tuple [.int c, .int d]) = decide ((a, b) = (c, d)) := by
  have e : Spec.same (.tuple ([a, b].map PyData.int)) (.tuple ([c, d].map PyData.int)) = decide ([a, b] = [c, d]) := same_ints [a, b] [c, d]
  refine Eq.trans e ?_
  by_cases h1 : a = c <;> by_cases h2 : b = d <;> simp [h1, h2]
theorem tab_snoc {T : Int → Option (Int × Int)} {ks : List Int} {i : Nat} {k : Int} (h : ks[i]? = some k) : tabOf T (ks.take (i + 1)) = tabOf T (ks.take i) ++ [(k, (T k).getD (0, 1))] := by
  unfold tabOf
  rw [take_snoc h, List.map_append]
  rfl
theorem nums_at {wss : List (List Int)} {cs ws : List Int} {lo hi : Int} {i : Nat} (h : wss[i]? = some ws) : (numsI wss cs lo hi)[i]? = some (cutI (dotI ws cs) lo hi) := by
  unfold numsI
  rw [List.getElem?_map, h]
  rfl
end Mine
namespace Mine
open PySem L2
/-! ### the tails of a ladder are the sums of its shares -/
theorem law_frac {p q lo h n m : Int} (s : Steep p q) (n0 : lo ≤ n) (n1 : n ≤ h) (m0 : lo ≤ m) (m1 : m ≤ h) :
    lawSh p q lo h n m * shD p q (m - n).natAbs = (if m = lo ∨ m = h then tlN p q (m - n).natAbs else shN p q (m - n).natAbs) * shD p q (h - lo).toNat := by
  have e : q ^ (h - lo).toNat = q ^ (h - lo - ((m - n).natAbs : Int)).toNat * q ^ (m - n).natAbs := by
    rw [← Int.pow_add]
    congr 1
    omega
  unfold lawSh shD
  split
  · unfold tlN
    generalize q ^ (h - lo).toNat = a at e ⊢
    generalize q ^ (h - lo - ((m - n).natAbs : Int)).toNat = b at e ⊢
    generalize q ^ (m - n).natAbs = c at e ⊢
    generalize p ^ (m - n).natAbs = d
    grind
  · unfold shN
    generalize q ^ (h - lo).toNat = a at e ⊢
    generalize q ^ (h - lo - ((m - n).natAbs : Int)).toNat = b at e ⊢
    generalize q ^ (m - n).natAbs = c at e ⊢
    generalize p ^ (m - n).natAbs = d
    grind
def sufI (p q lo h n m : Int) : Int := ((rangeI m (h + 1 - m).toNat).map (lawSh p q lo h n)).sum
theorem suf_cons {p q lo h n m : Int} (hm : m ≤ h) : sufI p q lo h n m = lawSh p q lo h n m + sufI p q lo h n (m + 1) := by
  unfold sufI
  have e : (h + 1 - m).toNat = (h + 1 - (m + 1)).toNat + 1 := by omega
  rw [e, rangeI_cons, List.map_cons, List.sum_cons]
theorem suf_end {p q lo h n : Int} : sufI p q lo h n (h + 1) = 0 := by
  unfold sufI
  have e : (h + 1 - (h + 1)).toNat = 0 := by omega
  rw [e]
  rfl
theorem cancel2 {a b x y : Int} (hx : 1 ≤ x) (hy : 1 ≤ y) (h : a * (x * y) = b * (x * y)) : a = b := by
  have : x * y ≠ 0 := by
    have := Int.mul_pos (show 0 < x by omega) (show 0 < y by omega)
    omega
  exact Int.eq_of_mul_eq_mul_right this h
theorem tail_sum {p q lo h n : Int} (s : Steep p q) (n0 : lo ≤ n) (n1 : n ≤ h) : ∀ (k : Nat) (m : Int), lo < m → m ≤ h → (h - m).toNat = k → sufI p q lo h n m * tD p q (m - n) = tN p q (m - n) * shD p q (h - lo).toNat := by
  intro k
  induction k with
  | zero =>
    intro m m0 m1 hk
    have e : m = h := by omega
    subst e
    have f := law_frac s n0 n1 (by omega : lo ≤ m) (Int.le_refl m)
    rw [if_pos (Or.inr rfl)] at f
    rw [suf_cons (Int.le_refl m), suf_end, Int.add_zero]
    have c0 : 0 ≤ m - n := by omega
    have ek : (m - n).natAbs = (m - n).toNat := by omega
    rw [ek] at f
    unfold tN tD
    rw [if_pos c0, if_pos c0]
    exact f
  | succ k ih =>
    intro m m0 m1 hk
    have i := ih (m + 1) (by omega) (by omega) (by omega)
    have f := law_frac s n0 n1 (by omega : lo ≤ m) m1
    rw [if_neg (by omega)] at f
    have t := tl_step s.p1 s.pq (m - n)
    have d1 := shD_pos s.p1 s.pq (m - n).natAbs
    have d2 := tD_pos s.p1 s.pq (m - n + 1)
    rw [suf_cons m1]
    have em : m + 1 - n = m - n + 1 := by omega
    rw [em] at i
    refine cancel2 d1 d2 ?_
    generalize lawSh p q lo h n m = x at f ⊢
    generalize sufI p q lo h n (m + 1) = y at i ⊢
    generalize shD p q (h - lo).toNat = u at f i ⊢
    generalize shD p q (m - n).natAbs = a at f t ⊢
    generalize shN p q (m - n).natAbs = b at f t
    generalize tD p q (m - n + 1) = c at i t ⊢
    generalize tN p q (m - n + 1) = d at i t
    generalize tD p q (m - n) = e at t ⊢
    generalize tN p q (m - n) = g at t ⊢
    grind
theorem whole_sum {p q lo h n : Int} (s : Steep p q) (n0 : lo ≤ n) (n1 : n ≤ h) (lt : lo < h) : sufI p q lo h n lo = shD p q (h - lo).toNat := by
  have f := law_frac s n0 n1 (Int.le_refl lo) (by omega)
  rw [if_pos (Or.inl rfl)] at f
  have t := tail_sum s n0 n1 (h - (lo + 1)).toNat (lo + 1) (by omega) (by omega) rfl
  have d1 := shD_pos s.p1 s.pq (lo - n).natAbs
  have d2 := tD_pos s.p1 s.pq (lo + 1 - n)
  rw [suf_cons (by omega)]
  refine cancel2 d1 d2 ?_
  have key : tlN p q (lo - n).natAbs * tD p q (lo + 1 - n) + tN p q (lo + 1 - n) * shD p q (lo - n).natAbs = shD p q (lo - n).natAbs * tD p q (lo + 1 - n) := by
    unfold tN tD
    by_cases c : 0 ≤ lo + 1 - n
    · rw [if_pos c, if_pos c]
      have : lo - n = 0 ∨ lo - n = -1 := by omega
      rcases this with z | z
      · have e1 : (lo - n).natAbs = 0 := by omega
        have e2 : (lo + 1 - n).toNat = 1 := by omega
        rw [e1, e2]
        unfold tlN shD
        simp only [Int.pow_zero, Int.pow_one]
        grind
      · have e1 : (lo - n).natAbs = 1 := by omega
        have e2 : (lo + 1 - n).toNat = 0 := by omega
        rw [e1, e2]
        unfold tlN shD
        simp only [Int.pow_zero, Int.pow_one]
        grind
    · rw [if_neg c, if_neg c]
      have e1 : (1 - (lo + 1 - n)).toNat = (lo - n).natAbs := by omega
      rw [e1]
      generalize tlN p q (lo - n).natAbs = a
      generalize shD p q (lo - n).natAbs = b
      grind
  generalize lawSh p q lo h n lo = x at f ⊢
  generalize sufI p q lo h n (lo + 1) = y at t ⊢
  generalize shD p q (h - lo).toNat = u at f t ⊢
  generalize shD p q (lo - n).natAbs = a at f key ⊢
  generalize tlN p q (lo - n).natAbs = b at f key
  generalize tD p q (lo + 1 - n) = c at t key ⊢
  generalize tN p q (lo + 1 - n) = d at t key
  grind
/-! ### who says yes at a mark -/
def yesF (p q lo h n m : Int) : Int × Int := if m ≤ lo then (1, 1) else if h < m then (0, 1) else (low1 (tN p q (m - n)) (tD p q (m - n)), low2 (tN p q (m - n)) (tD p q (m - n)))
def lowP (c w : Int) : Int × Int := (low1 c w, low2 c w)
theorem lowP_eq {a b c d : Int} (ha : 0 ≤ a) (hb : 1 ≤ b) (hc : 0 ≤ c) (hd : 1 ≤ d) (h : a * d = c * b) : lowP a b = lowP c d := by
  have e := low_eq ha hb hc hd h
  unfold lowP
  rw [e.1, e.2]
theorem lowP_one {w : Int} (h : 1 ≤ w) : lowP w w = (1, 1) := by
  have e := lowP_eq (a := w) (b := w) (c := 1) (d := 1) (by omega) h (by decide) (by decide) (by omega)
  rw [e]
  decide
theorem lowP_zero {w : Int} (h : 1 ≤ w) : lowP 0 w = (0, 1) := by
  have e := lowP_eq (a := 0) (b := w) (c := 0) (d := 1) (by omega) h (by decide) (by decide) (by omega)
  rw [e]
  decide
theorem range_drop (lo : Int) : ∀ (j N : Nat), (rangeI lo N).drop j = rangeI (lo + j) (N - j)
  | 0, N => by simp
  | j + 1, 0 => by simp [rangeI]
  | j + 1, N + 1 => by
    rw [rangeI_cons, List.drop_succ_cons, range_drop (lo + 1) j N]
    have e : lo + 1 + (j : Int) = lo + ((j + 1 : Nat) : Int) := by omega
    rw [e, Nat.succ_sub_succ]
def aft (p q lo h n m : Int) : Int := ((sharesI p q lo h n).drop (m - lo).toNat).sum
def bef (p q lo h n m : Int) : Int := ((sharesI p q lo h n).take (m - lo).toNat).sum
theorem aft_bef {p q lo h n m : Int} : bef p q lo h n m + aft p q lo h n m = (sharesI p q lo h n).sum := by
  unfold bef aft
  rw [← List.sum_append, List.take_append_drop]
theorem sum_nonneg : ∀ {l : List Int}, (∀ x ∈ l, 1 ≤ x) → 0 ≤ l.sum
  | [], _ => by decide
  | a :: r, h => by
    rw [List.sum_cons]
    have := h a List.mem_cons_self
    have := sum_nonneg fun x hx => h x (List.mem_cons_of_mem _ hx)
    omega
theorem aft_nn {p q lo h n m : Int} (s : Steep p q) : 0 ≤ aft p q lo h n m := sum_nonneg fun x hx => shares_pos s x (List.mem_of_mem_drop hx)
theorem bef_nn {p q lo h n m : Int} (s : Steep p q) : 0 ≤ bef p q lo h n m := sum_nonneg fun x hx => shares_pos s x (List.mem_of_mem_take hx)
theorem shares_sum {p q lo h n : Int} (s : Steep p q) (n0 : lo ≤ n) (n1 : n ≤ h) : (sharesI p q lo h n).sum = botI p q lo h := by
  unfold sharesI botI
  by_cases c : lo = h
  · rw [if_pos c, if_pos c]; rfl
  · rw [if_neg c, if_neg c]
    exact whole_sum s n0 n1 (by omega)
theorem yes_low {p q lo h n m : Int} (s : Steep p q) (n0 : lo ≤ n) (n1 : n ≤ h) (m0 : lo ≤ m) (m1 : m ≤ h + 1) (bp : 1 ≤ botI p q lo h) : yesF p q lo h n m = lowP (aft p q lo h n m) (botI p q lo h) := by
  unfold yesF
  by_cases c1 : m ≤ lo
  · rw [if_pos c1]
    have e : m = lo := by omega
    subst e
    have e2 : aft p q m h n m = botI p q m h := by
      unfold aft
      have e0 : (m - m).toNat = 0 := by omega
      rw [e0, List.drop_zero]
      exact shares_sum s n0 n1
    rw [e2, lowP_one bp]
  · rw [if_neg c1]
    by_cases c2 : h < m
    · rw [if_pos c2]
      have e2 : aft p q lo h n m = 0 := by
        unfold aft
        rw [List.drop_of_length_le]
        · rfl
        · unfold sharesI
          split
          · show 1 ≤ _; omega
          · rw [List.length_map, rangeI_len]; omega
      rw [e2, lowP_zero bp]
    · rw [if_neg c2]
      have c : ¬ lo = h := by omega
      have t := tail_sum s n0 n1 (h - m).toNat m (by omega) (by omega) rfl
      have e2 : aft p q lo h n m = sufI p q lo h n m := by
        unfold aft sharesI sufI
        rw [if_neg c, ← List.map_drop, range_drop]
        have a1 : lo + ((m - lo).toNat : Int) = m := by omega
        have a2 : (h + 1 - lo).toNat - (m - lo).toNat = (h + 1 - m).toNat := by omega
        rw [a1, a2]
      have an := aft_nn (lo := lo) (h := h) (n := n) (m := m) s
      rw [e2] at an ⊢
      have bq : botI p q lo h = shD p q (h - lo).toNat := by unfold botI; rw [if_neg c]
      rw [bq] at bp ⊢
      exact lowP_eq (tN_nn s.p1 s.pq _) (tD_pos s.p1 s.pq _) an bp t.symm
end Mine
namespace Mine
open PySem L2
/-! ### products and sums of fractions over a common bottom -/
theorem mul_low {a b c d : Int} (ha : 0 ≤ a) (hb : 1 ≤ b) (hc : 0 ≤ c) (hd : 1 ≤ d) : lowP ((lowP a b).1 * (lowP c d).1) ((lowP a b).2 * (lowP c d).2) = lowP (a * c) (b * d) := by
  have r1 := low_ratio ha hb
  have r2 := low_ratio hc hd
  have n1 := low1_nonneg (b := b) ha
  have n2 := low1_nonneg (b := d) hc
  have p1 := low2_pos (a := a) hb
  have p2 := low2_pos (a := c) hd
  have q1 := Int.mul_nonneg n1 n2
  have q2 := Int.mul_pos (show 0 < low2 a b by omega) (show 0 < low2 c d by omega)
  have q3 := Int.mul_nonneg ha hc
  have q4 := Int.mul_pos (show 0 < b by omega) (show 0 < d by omega)
  refine lowP_eq q1 (by show 1 ≤ low2 a b * low2 c d; omega) q3 (by omega) ?_
  show low1 a b * low1 c d * (b * d) = a * c * (low2 a b * low2 c d)
  generalize low1 a b = x at r1 ⊢
  generalize low2 a b = y at r1 ⊢
  generalize low1 c d = z at r2 ⊢
  generalize low2 c d = w at r2 ⊢
  grind
theorem add_low {a b w : Int} (ha : 0 ≤ a) (hb : 0 ≤ b) (hw : 1 ≤ w) : addF (lowP a w) (lowP b w) = lowP (a + b) w := by
  have r1 := low_ratio ha hw
  have r2 := low_ratio hb hw
  have n1 := low1_nonneg (b := w) ha
  have n2 := low1_nonneg (b := w) hb
  have p1 := low2_pos (a := a) hw
  have p2 := low2_pos (a := b) hw
  have q1 := Int.mul_nonneg n1 (show 0 ≤ low2 b w by omega)
  have q2 := Int.mul_nonneg n2 (show 0 ≤ low2 a w by omega)
  have q3 := Int.mul_pos (show 0 < low2 a w by omega) (show 0 < low2 b w by omega)
  show lowP (low1 a w * low2 b w + low1 b w * low2 a w) (low2 a w * low2 b w) = _
  refine lowP_eq (by omega) (by omega) (by omega) hw ?_
  generalize low1 a w = x at r1 ⊢
  generalize low2 a w = y at r1 ⊢
  generalize low1 b w = z at r2 ⊢
  generalize low2 b w = v at r2 ⊢
  grind
theorem sub_low {a c u : Int} (ha : 0 ≤ a) (hc : 0 ≤ c) (hu : 1 ≤ u) (h : a + c = u) : lowP (1 * (lowP a u).2 - (lowP a u).1 * 1) (1 * (lowP a u).2) = lowP c u := by
  have r1 := low_ratio ha hu
  have n1 := low1_nonneg (b := u) ha
  have p1 := low2_pos (a := a) hu
  have l2 := low_le (a := a) (b := u) (by omega) hu
  refine lowP_eq (by show 0 ≤ 1 * low2 a u - low1 a u * 1; omega) (by show 1 ≤ 1 * low2 a u; omega) hc hu ?_
  show (1 * low2 a u - low1 a u * 1) * u = c * (1 * low2 a u)
  generalize low1 a u = x at r1 ⊢
  generalize low2 a u = y at r1 ⊢
  grind
def prodU : List (Int × Int × Int) → Int
  | [] => 1
  | t :: r => t.2.2 * prodU r
/-- what the law adds at a mark -/
def contrib : Int → List (Int × Int × Int) → List Int
  | l, [] => [l]
  | l, t :: r => l * t.1 * prodU r :: contrib (l * t.2.1) r
structure Tri (t : Int × Int × Int) : Prop where
  a : 0 ≤ t.1
  c : 0 ≤ t.2.1
  s : t.1 + t.2.1 = t.2.2
  u : 1 ≤ t.2.2
theorem prodU_pos : ∀ {ts : List (Int × Int × Int)}, (∀ t ∈ ts, Tri t) → 1 ≤ prodU ts
  | [], _ => by decide
  | t :: r, h => by
    have a := (h t List.mem_cons_self).u
    have b := prodU_pos fun x hx => h x (List.mem_cons_of_mem _ hx)
    show 1 ≤ t.2.2 * prodU r
    have := Int.mul_pos (show 0 < t.2.2 by omega) (show 0 < prodU r by omega)
    omega
/-! ### totals over a common bottom -/
def cntA : (Int → Int) → List (Int × Int) → Int → Int
  | c, [] => c
  | c, e :: r => cntA (fun z => if z = e.1 then c z + e.2 else c z) r
theorem cnt_app : ∀ (c : Int → Int) (es fs : List (Int × Int)), cntA c (es ++ fs) = cntA (cntA c es) fs
  | c, [], fs => rfl
  | c, e :: r, fs => cnt_app _ r fs
theorem cnt_snoc (c : Int → Int) (es : List (Int × Int)) (k v y : Int) : cntA c (es ++ [(k, v)]) y = if y = k then cntA c es y + v else cntA c es y := by
  rw [cnt_app]
  rfl
theorem cnt_bd : ∀ (c : Int → Int) (es : List (Int × Int)) (b w : Int), (∀ y, 0 ≤ c y ∧ c y ≤ b) → (∀ e ∈ es, 0 ≤ e.2 ∧ e.2 ≤ w) → 0 ≤ w → ∀ y, 0 ≤ cntA c es y ∧ cntA c es y ≤ b + es.length * w
  | c, [], b, w, h, _, hw, y => by simpa [cntA] using h y
  | c, e :: r, b, w, h, he, hw, y => by
    have h1 := he e List.mem_cons_self
    have := cnt_bd (fun z => if z = e.1 then c z + e.2 else c z) r (b + w) w (fun z => by have := h z; split <;> omega) (fun x hx => he x (List.mem_cons_of_mem _ hx)) hw y
    have e2 : cntA c (e :: r) y = cntA (fun z => if z = e.1 then c z + e.2 else c z) r y := rfl
    have e3 : ((e :: r).length : Int) * w = w + (r.length : Int) * w := by
      rw [List.length_cons]
      push_cast
      rw [Int.add_mul, Int.one_mul, Int.add_comm]
    rw [e2, e3]
    omega
theorem cnt_not : ∀ (c : Int → Int) (es : List (Int × Int)) (y : Int), (∀ e ∈ es, e.1 ≠ y) → cntA c es y = c y
  | c, [], y, _ => rfl
  | c, e :: r, y, h => by
    have h1 : ¬ y = e.1 := fun z => h e List.mem_cons_self z.symm
    show cntA (fun z => if z = e.1 then c z + e.2 else c z) r y = c y
    rw [cnt_not _ r y fun x hx => h x (List.mem_cons_of_mem _ hx)]
    exact if_neg h1
def OkT (w : Int) (T : Int → Option (Int × Int)) (c : Int → Int) : Prop := ∀ y, (T y = none ∧ c y = 0) ∨ T y = some (lowP (c y) w)
theorem OkT.get {w : Int} {T : Int → Option (Int × Int)} {c : Int → Int} (hw : 1 ≤ w) (h : OkT w T c) (y : Int) : (T y).getD (0, 1) = lowP (c y) w := by
  rcases h y with ⟨e1, e2⟩ | e
  · rw [e1, e2, lowP_zero hw]; rfl
  · rw [e]; rfl
theorem OkT.step {w : Int} {T : Int → Option (Int × Int)} {c : Int → Int} (hw : 1 ≤ w) (hc : ∀ y, 0 ≤ c y) (h : OkT w T c) {k v : Int} (hv : 0 ≤ v) : OkT w (stepT T (k, lowP v w)) (fun z => if z = k then c z + v else c z) := by
  intro y
  unfold stepT
  by_cases e : y = k
  · refine .inr ?_
    simp only [e, if_true]
    rw [h.get hw k, add_low (hc k) hv hw]
  · simp only [e, if_false]
    exact h y
theorem tot_low {w : Int} (hw : 1 ≤ w) : ∀ (es : List (Int × Int)) (T : Int → Option (Int × Int)) (c : Int → Int), (∀ y, 0 ≤ c y) → (∀ e ∈ es, 0 ≤ e.2) → OkT w T c → OkT w ((es.map fun e => ((e.1, lowP e.2 w) : Int × Int × Int)).foldl stepT T) (cntA c es)
  | [], T, c, _, _, h => h
  | e :: r, T, c, hc, he, h => by
    simp only [List.map_cons, List.foldl_cons]
    have h1 := he e List.mem_cons_self
    exact tot_low hw r _ _ (fun z => by have := hc z; split <;> omega) (fun x hx => he x (List.mem_cons_of_mem _ hx)) (h.step hw hc h1)
theorem low_safe {w b v : Int} (hw : 1 ≤ w) (hb : w < 2 ^ 180) (hv : 0 ≤ v) : ∀ (es : List (Int × Int)) (T : Int → Option (Int × Int)) (c : Int → Int) (b : Int), (∀ y, 0 ≤ c y ∧ c y ≤ b) → (∀ e ∈ es, 0 ≤ e.2 ∧ e.2 ≤ v) → b + es.length * v < 2 ^ 180 → v < 2 ^ 180 → OkT w T c → Safe T (es.map fun e => (e.1, lowP e.2 w))
  | [], _, _, _, _, _, _, _, _ => trivial
  | e :: r, T, c, b, hc, he, hbd, hv2, h => by
    have h1 := he e List.mem_cons_self
    have e3 : ((e :: r).length : Int) * v = v + (r.length : Int) * v := by
      rw [List.length_cons]
      push_cast
      rw [Int.add_mul, Int.one_mul, Int.add_comm]
    rw [e3] at hbd
    have rv : 0 ≤ (r.length : Int) * v := Int.mul_nonneg (by omega) hv
    refine ⟨?_, low_fr h1.1 (by omega) hw hb, low_safe (b := b) hw hb hv r _ _ (b + v) (fun z => by have := hc z; split <;> omega) (fun x hx => he x (List.mem_cons_of_mem _ hx)) (by omega) hv2 (h.step hw (fun y => (hc y).1) h1.1)⟩
    have ck := hc e.1
    show Fr72 ((T e.1).getD (0, 1))
    rw [h.get hw]
    exact low_fr ck.1 (by omega) hw hb
/-- the table of totals -/
theorem tot_table {w : Int} (hw : 1 ≤ w) {es : List (Int × Int)} (he : ∀ e ∈ es, 0 ≤ e.2) {m : Nat} (hk : ∀ e ∈ es, 0 ≤ e.1 ∧ e.1 < m) {ks : List Int} (hr : ks.Pairwise (· < ·)) (hm : ∀ k, k ∈ ks ↔ ∃ u, totF (es.map fun e => (e.1, lowP e.2 w)) k = some u ∧ u ≠ (0, 1)) :
    tabOf (totF (es.map fun e => (e.1, lowP e.2 w))) ks = tabZ w 0 ((rangeI 0 m).map (cntA (fun _ => 0) es)) := by
  have tt : OkT w (totF (es.map fun e => (e.1, lowP e.2 w))) (cntA (fun _ => 0) es) := tot_low hw es (fun _ => none) (fun _ => 0) (fun _ => Int.le_refl _) he (fun _ => .inl ⟨rfl, rfl⟩)
  have nn : ∀ (l : List (Int × Int)) (c : Int → Int), (∀ y, 0 ≤ c y) → (∀ e ∈ l, 0 ≤ e.2) → ∀ y, 0 ≤ cntA c l y := by
    intro l
    induction l with
    | nil => intro c h _ y; exact h y
    | cons e r ih =>
      intro c h he y
      have := he e List.mem_cons_self
      exact ih _ (fun z => by have := h z; split <;> omega) (fun x hx => he x (List.mem_cons_of_mem _ hx)) y
  have c0 := nn es (fun _ => 0) (fun _ => Int.le_refl _) he
  generalize hT : totF (es.map fun e => (e.1, lowP e.2 w)) = T at tt hm ⊢
  have inr : ∀ k, cntA (fun _ => 0) es k ≠ 0 → 0 ≤ k ∧ k < m := fun k hk' => by
    by_cases q : ∃ e ∈ es, e.1 = k
    · obtain ⟨e, he', rfl⟩ := q
      exact hk e he'
    · exact absurd (cnt_not (fun _ => 0) es k fun e he' z => q ⟨e, he', z⟩) hk'
  generalize cntA (fun _ => 0) es = c at tt c0 inr ⊢
  have ne : ∀ a, 0 < a → lowP a w ≠ (0, 1) := fun a ha z => by
    have q1 : low1 a w = 0 := congrArg Prod.fst z
    have := low1_pos (S := a) (P := w) (by omega) hw
    omega
  have ek : ks = (rangeI 0 m).filter fun y => decide (0 < c y) := by
    refine rise_ext hr ((range_rise 0 _).sublist List.filter_sublist) fun k => ?_
    rw [hm k, List.mem_filter, mem_rangeI, decide_eq_true_eq]
    have ck := c0 k
    constructor
    · rintro ⟨u, e1, e2⟩
      rcases tt k with ⟨z, _⟩ | z
      · rw [z] at e1; cases e1
      · rw [z] at e1
        cases e1
        by_cases q : c k = 0
        · rw [q, lowP_zero hw] at e2
          exact absurd rfl e2
        · have := inr k q
          exact ⟨⟨this.1, by omega⟩, by omega⟩
    · rintro ⟨_, q⟩
      rcases tt k with ⟨_, z⟩ | z
      · omega
      · exact ⟨_, z, ne _ q⟩
  unfold tabOf
  rw [tabZ_map, ek]
  refine List.map_congr_left fun y hy => ?_
  have hy2 : 0 < c y := by
    have := (List.mem_filter.mp hy).2
    exact of_decide_eq_true this
  rcases tt y with ⟨_, z⟩ | z
  · omega
  · rw [z]
    rfl
end Mine
namespace Mine
open PySem L2
/-! ### the cells of a first -/
def tri (pb qb lo h m n : Int) : Int × Int × Int := (aft pb qb lo h n m, bef pb qb lo h n m, botI pb qb lo h)
theorem tri_ok {pb qb lo h m n : Int} (s : Steep pb qb) (n0 : lo ≤ n) (n1 : n ≤ h) (bp : 1 ≤ botI pb qb lo h) : Tri (tri pb qb lo h m n) := by
  have e1 := aft_bef (p := pb) (q := qb) (lo := lo) (h := h) (n := n) (m := m)
  have e2 := shares_sum s n0 n1
  exact ⟨aft_nn s, bef_nn s, by show aft pb qb lo h n m + bef pb qb lo h n m = botI pb qb lo h; omega, bp⟩
theorem prodU_tri {pb qb lo h m : Int} : ∀ ns : List Int, prodU (ns.map (tri pb qb lo h m)) = botI pb qb lo h ^ ns.length
  | [] => by simp [prodU]
  | n :: r => by
    show botI pb qb lo h * prodU (r.map (tri pb qb lo h m)) = _
    rw [prodU_tri r, List.length_cons, Int.pow_succ, Int.mul_comm]
def keyed : Int → List Int → List (Int × Int)
  | _, [] => []
  | k, c :: r => (k, c) :: keyed (k + 1) r
theorem keyed_snoc : ∀ (k : Int) (l : List Int) (c : Int), keyed k (l ++ [c]) = keyed k l ++ [(k + l.length, c)]
  | k, [], c => by simp [keyed]
  | k, a :: r, c => by
    have e : k + 1 + (r.length : Int) = k + ((r.length + 1 : Nat) : Int) := by omega
    simp only [List.cons_append, keyed, keyed_snoc (k + 1) r c, List.length_cons, e]
theorem keyed_mem : ∀ {k : Int} {l : List Int} {e : Int × Int}, e ∈ keyed k l → (k ≤ e.1 ∧ e.1 < k + l.length) ∧ e.2 ∈ l
  | k, [], e, h => nomatch h
  | k, a :: r, e, h => by
    rcases List.mem_cons.mp h with z | z
    · subst z
      refine ⟨⟨Int.le_refl _, ?_⟩, List.mem_cons_self⟩
      show k < k + ((r.length + 1 : Nat) : Int)
      omega
    · have := keyed_mem z
      rw [List.length_cons]
      exact ⟨⟨by omega, by omega⟩, List.mem_cons_of_mem _ this.2⟩
theorem keyed_len : ∀ (k : Int) (l : List Int), (keyed k l).length = l.length
  | _, [] => rfl
  | k, a :: r => by simp [keyed, keyed_len (k + 1) r]
theorem contrib_len : ∀ (l : Int) (ts : List (Int × Int × Int)), (contrib l ts).length = ts.length + 1
  | _, [] => rfl
  | l, t :: r => by simp [contrib, contrib_len]
theorem contrib_bd : ∀ (ts : List (Int × Int × Int)) (l : Int), 0 ≤ l → (∀ t ∈ ts, Tri t) → ∀ c ∈ contrib l ts, 0 ≤ c ∧ c ≤ l * prodU ts
  | [], l, hl, _, c, hc => by
    have e : c = l := by simpa [contrib] using hc
    subst e
    exact ⟨hl, by show c ≤ c * 1; omega⟩
  | t :: r, l, hl, h, c, hc => by
    have ht := h t List.mem_cons_self
    have hr : ∀ x ∈ r, Tri x := fun x hx => h x (List.mem_cons_of_mem _ hx)
    have pr := prodU_pos hr
    have q1 := Int.mul_nonneg hl ht.a
    have q2 := Int.mul_nonneg hl ht.c
    have es : l * t.1 + l * t.2.1 = l * t.2.2 := by rw [← Int.mul_add, ht.s]
    have ep : l * prodU (t :: r) = l * t.2.2 * prodU r := by show l * (t.2.2 * prodU r) = _; rw [Int.mul_assoc]
    rw [ep]
    rcases List.mem_cons.mp hc with z | z
    · subst z
      exact ⟨Int.mul_nonneg q1 (by omega), Int.mul_le_mul_of_nonneg_right (by omega) (by omega)⟩
    · have ih := contrib_bd r (l * t.2.1) q2 hr c z
      exact ⟨ih.1, Int.le_trans ih.2 (Int.mul_le_mul_of_nonneg_right (by omega) (by omega))⟩
def cellsM (pa qa pb qb mk : Int) (ns : List Int) (lo hi m : Int) : List (Int × Int) := keyed 0 (contrib (lawSh pa qa lo hi mk m) (ns.map (tri pb qb lo (hi - 1) m)))
def cellsN (pa qa pb qb mk : Int) (ns : List Int) (lo hi : Int) (j : Nat) : List (Int × Int) := (rangeI lo j).flatMap (cellsM pa qa pb qb mk ns lo hi)
theorem cellsN_succ {pa qa pb qb mk : Int} {ns : List Int} {lo hi : Int} (j : Nat) : cellsN pa qa pb qb mk ns lo hi (j + 1) = cellsN pa qa pb qb mk ns lo hi j ++ cellsM pa qa pb qb mk ns lo hi (lo + j) := by
  unfold cellsN
  rw [rangeI_succ, List.flatMap_append]
  simp
def wF (pa qa pb qb lo hi : Int) (k : Nat) : Int := botI pa qa lo hi * botI pb qb lo (hi - 1) ^ k
def lowE (w : Int) (e : Int × Int) : Int × Int × Int := (e.1, lowP e.2 w)
def firstTab (pa qa pb qb mk : Int) (ns : List Int) (lo hi : Int) : List (Int × Int × Int) :=
  tabZ (wF pa qa pb qb lo hi ns.length) 0 ((rangeI 0 (ns.length + 1)).map (cntA (fun _ => 0) (cellsN pa qa pb qb mk ns lo hi (hi + 1 - lo).toNat)))
theorem bot34 {p q lo hi : Int} (s : Steep p q) (a : 0 ≤ lo) (b : lo ≤ hi) (c : hi ≤ 9) : 1 ≤ botI p q lo hi ∧ botI p q lo hi < 2 ^ 34 := by
  obtain ⟨p1, pq, q9⟩ := id s
  unfold botI
  split
  · decide
  · have e1 := shD_pos p1 pq (hi - lo).toNat
    refine ⟨e1, ?_⟩
    have hq := pow_le (p := q) (q := 9) (by omega) q9 (hi - lo).toNat
    have m9 : ∀ j : Nat, j ≤ 9 → (9 : Int) ^ j < 2 ^ 29 := by decide
    have b1 := m9 (hi - lo).toNat (by omega)
    have q0 : 0 < q ^ (hi - lo).toNat := Int.pow_pos (by omega)
    have m := mul_bd (a := q + p) (b := q ^ (hi - lo).toNat) (m := 5) (n := 29) (by omega) (by omega) (by omega) (by omega)
    exact m.2
theorem pow4 {u : Int} (h1 : 1 ≤ u) (h2 : u < 2 ^ 34) : ∀ k : Nat, k ≤ 4 → 1 ≤ u ^ k ∧ u ^ k < 2 ^ 136
  | 0, _ => by rw [Int.pow_zero]; decide
  | 1, _ => by rw [Int.pow_one]; exact ⟨h1, by omega⟩
  | 2, _ => by
    have m := mul_bd (a := u) (b := u) (m := 34) (n := 34) (by omega) h2 (by omega) h2
    have p := Int.mul_pos (show 0 < u by omega) (show 0 < u by omega)
    have e : u ^ 2 = u * u := by rw [Int.pow_succ, Int.pow_one]
    rw [e]; exact ⟨by omega, Int.lt_trans m.2 (by decide)⟩
  | 3, _ => by
    have i := pow4 h1 h2 2 (by decide)
    have m2 := mul_bd (a := u) (b := u) (m := 34) (n := 34) (by omega) h2 (by omega) h2
    have m := mul_bd (a := u * u) (b := u) (m := 68) (n := 34) m2.1 m2.2 (by omega) h2
    have p := Int.mul_pos (Int.mul_pos (show 0 < u by omega) (show 0 < u by omega)) (show 0 < u by omega)
    have e : u ^ 3 = u * u * u := by rw [Int.pow_succ, Int.pow_succ, Int.pow_one]
    rw [e]; exact ⟨by omega, Int.lt_trans m.2 (by decide)⟩
  | 4, _ => by
    have m2 := mul_bd (a := u) (b := u) (m := 34) (n := 34) (by omega) h2 (by omega) h2
    have m3 := mul_bd (a := u * u) (b := u) (m := 68) (n := 34) m2.1 m2.2 (by omega) h2
    have m := mul_bd (a := u * u * u) (b := u) (m := 102) (n := 34) m3.1 m3.2 (by omega) h2
    have p := Int.mul_pos (Int.mul_pos (Int.mul_pos (show 0 < u by omega) (show 0 < u by omega)) (show 0 < u by omega)) (show 0 < u by omega)
    have e : u ^ 4 = u * u * u * u := by rw [Int.pow_succ, Int.pow_succ, Int.pow_succ, Int.pow_one]
    rw [e]; exact ⟨by omega, m.2⟩
structure Ends1 (lo hi : Int) : Prop where
  a : 0 ≤ lo
  b : lo + 1 ≤ hi
  c : hi ≤ 9
theorem wF_bd {pa qa pb qb lo hi : Int} {k : Nat} (sa : Steep pa qa) (sb : Steep pb qb) (e : Ends1 lo hi) (hk : k ≤ 4) : 1 ≤ wF pa qa pb qb lo hi k ∧ wF pa qa pb qb lo hi k < 2 ^ 170 := by
  have e1 := bot34 sa e.a (show lo ≤ hi by have := e.b; omega) e.c
  have e2 := bot34 (lo := lo) (hi := hi - 1) sb e.a (by have := e.b; omega) (by have := e.c; omega)
  have e3 := pow4 e2.1 e2.2 k hk
  unfold wF
  have m := mul_bd (a := botI pa qa lo hi) (b := botI pb qb lo (hi - 1) ^ k) (m := 34) (n := 136) (by omega) e1.2 (by omega) e3.2
  have p := Int.mul_pos (show 0 < botI pa qa lo hi by omega) (show 0 < botI pb qb lo (hi - 1) ^ k by omega)
  exact ⟨by omega, m.2⟩
theorem sh_le_bot {p q lo hi n y : Int} (s : Steep p q) (n0 : lo ≤ n) (n1 : n ≤ hi) (lt : lo < hi) (y0 : lo ≤ y) (y1 : y ≤ hi) : lawSh p q lo hi n y ≤ botI p q lo hi := by
  rw [← shares_sum s n0 n1]
  have hm : lawSh p q lo hi n y ∈ sharesI p q lo hi n := by
    unfold sharesI
    rw [if_neg (by omega)]
    exact List.mem_map.mpr ⟨y, mem_rangeI.mpr ⟨y0, by omega⟩, rfl⟩
  have pos := shares_pos (lo := lo) (hi := hi) (n := n) s
  have gen : ∀ (l : List Int), (∀ x ∈ l, 1 ≤ x) → ∀ z ∈ l, z ≤ l.sum := by
    intro l
    induction l with
    | nil => intro _ z hz; cases hz
    | cons a r ih =>
      intro h z hz
      have hs := sum_nonneg fun x hx => h x (List.mem_cons_of_mem _ hx)
      have ha := h a List.mem_cons_self
      rw [List.sum_cons]
      rcases List.mem_cons.mp hz with e | e
      · subst e; omega
      · have := ih (fun x hx => h x (List.mem_cons_of_mem _ hx)) z e
        omega
  exact gen _ pos _ hm
theorem ladder_ents {p q lo hi n : Int} (s : Steep p q) (n0 : lo ≤ n) (n1 : n ≤ hi) (lt : lo < hi) : tableI p q lo hi n = (rangeI lo (hi + 1 - lo).toNat).map fun y => (y, lowP (lawSh p q lo hi n y) (botI p q lo hi)) := by
  rw [← law_table s n0 n1]
  unfold sharesI
  rw [if_neg (by omega), tabL_map]
  rfl
structure InF (pa qa pb qb mk : Int) (ns : List Int) (lo hi : Int) : Prop where
  sa : Steep pa qa
  sb : Steep pb qb
  en : Ends1 lo hi
  m0 : lo ≤ mk
  m1 : mk ≤ hi
  nn : ∀ n ∈ ns, lo ≤ n ∧ n ≤ hi - 1
  l1 : 1 ≤ ns.length
  l4 : ns.length ≤ 4
theorem InF.tris {pa qa pb qb mk : Int} {ns : List Int} {lo hi m : Int} (F : InF pa qa pb qb mk ns lo hi) : ∀ t ∈ ns.map (tri pb qb lo (hi - 1) m), Tri t := fun t ht => by
  obtain ⟨n, hn, rfl⟩ := List.mem_map.mp ht
  have e := F.en
  have e2 := bot34 (lo := lo) (hi := hi - 1) F.sb e.a (by have := e.b; omega) (by have := e.c; omega)
  exact tri_ok F.sb (F.nn n hn).1 (F.nn n hn).2 e2.1
theorem InF.cells {pa qa pb qb mk : Int} {ns : List Int} {lo hi : Int} (F : InF pa qa pb qb mk ns lo hi) : ∀ e ∈ cellsN pa qa pb qb mk ns lo hi (hi + 1 - lo).toNat, (0 ≤ e.1 ∧ e.1 < ((ns.length + 1 : Nat) : Int)) ∧ 0 ≤ e.2 ∧ e.2 ≤ wF pa qa pb qb lo hi ns.length := fun e he => by
  obtain ⟨m, hm, hc⟩ := List.mem_flatMap.mp he
  have hm := mem_rangeI.mp hm
  have en := F.en
  have := en.b
  obtain ⟨⟨k0, k1⟩, hv⟩ := keyed_mem hc
  have l0 := law_nn (lo := lo) (hi := hi) (n := mk) (y := m) F.sa
  have bd := contrib_bd _ _ (by omega) F.tris _ hv
  rw [contrib_len, List.length_map] at k1
  rw [prodU_tri] at bd
  have le := sh_le_bot F.sa F.m0 F.m1 (by omega) hm.1 (by omega)
  have e2 := bot34 (lo := lo) (hi := hi - 1) F.sb en.a (by omega) (by have := en.c; omega)
  have e3 := pow4 e2.1 e2.2 ns.length F.l4
  refine ⟨⟨k0, by omega⟩, bd.1, Int.le_trans bd.2 ?_⟩
  unfold wF
  exact Int.mul_le_mul_of_nonneg_right le (by omega)
theorem cells_len {pa qa pb qb mk : Int} {ns : List Int} {lo hi : Int} : ∀ j : Nat, (cellsN pa qa pb qb mk ns lo hi j).length = j * (ns.length + 1)
  | 0 => by simp [cellsN, rangeI]
  | j + 1 => by
    rw [cellsN_succ, List.length_append, cells_len j]
    unfold cellsM
    rw [keyed_len, contrib_len, List.length_map, Nat.succ_mul]
theorem InF.len {pa qa pb qb mk : Int} {ns : List Int} {lo hi : Int} (F : InF pa qa pb qb mk ns lo hi) : (cellsN pa qa pb qb mk ns lo hi (hi + 1 - lo).toNat).length ≤ 50 := by
  rw [cells_len]
  have a : (hi + 1 - lo).toNat ≤ 10 := by have := F.en.a; have := F.en.c; omega
  have b : ns.length + 1 ≤ 5 := by have := F.l4; omega
  exact Nat.mul_le_mul a b
theorem InF.safe {pa qa pb qb mk : Int} {ns : List Int} {lo hi : Int} (F : InF pa qa pb qb mk ns lo hi) : Safe (fun _ => none) ((cellsN pa qa pb qb mk ns lo hi (hi + 1 - lo).toNat).map (lowE (wF pa qa pb qb lo hi ns.length))) := by
  have w := wF_bd F.sa F.sb F.en F.l4
  have l := F.len
  refine low_safe (b := 0) (v := wF pa qa pb qb lo hi ns.length) w.1 (by omega) (by omega) _ _ (fun _ => 0) 0 (fun _ => ⟨Int.le_refl _, Int.le_refl _⟩) (fun e he => (F.cells e he).2) ?_ (by omega) (fun _ => .inl ⟨rfl, rfl⟩)
  have : ((cellsN pa qa pb qb mk ns lo hi (hi + 1 - lo).toNat).length : Int) * wF pa qa pb qb lo hi ns.length ≤ 50 * wF pa qa pb qb lo hi ns.length := Int.mul_le_mul_of_nonneg_right (by omega) (by omega)
  omega
theorem InF.table {pa qa pb qb mk : Int} {ns : List Int} {lo hi : Int} (F : InF pa qa pb qb mk ns lo hi) {ks : List Int} (hr : ks.Pairwise (· < ·)) (hm : ∀ k, k ∈ ks ↔ ∃ u, totF ((cellsN pa qa pb qb mk ns lo hi (hi + 1 - lo).toNat).map (lowE (wF pa qa pb qb lo hi ns.length))) k = some u ∧ u ≠ (0, 1)) :
    tabOf (totF ((cellsN pa qa pb qb mk ns lo hi (hi + 1 - lo).toNat).map (lowE (wF pa qa pb qb lo hi ns.length)))) ks = firstTab pa qa pb qb mk ns lo hi :=
  tot_table (wF_bd F.sa F.sb F.en F.l4).1 (fun e he => (F.cells e he).2.1) (fun e he => (F.cells e he).1) hr hm
end Mine
namespace Mine
open PySem L2
/-! ### rows of firsts, and the promises -/
def RowF (H : Hp) (r : Addr) (x : Str) (mk : Int) (sa sb sm : Addr) (lo hi : Int) : Prop := H r = some (.tup [.str "first", .str x, .int mk, .ref sa, .ref sb, .ref sm, .int lo, .int hi])
def SumsAt (H : Hp) (sm : Addr) (wss : List (List Int)) : Prop := ∃ vs, H sm = some (.tup vs) ∧ Two (SumR H) vs wss
theorem SumsAt.ts {H H' : Hp} {sm : Addr} {wss : List (List Int)} (t : TS H H') (h : SumsAt H sm wss) : SumsAt H' sm wss := let ⟨vs, e, q⟩ := h; ⟨vs, t _ _ e, q.mono fun _ _ z => z.ts t⟩
theorem ne_il : ¬ (("first" : Str) = "ladder") := by decide +kernel
theorem ne_if : ¬ (("first" : Str) = "flat") := by decide +kernel
theorem ne_ic : ¬ (("first" : Str) = "choose") := by decide +kernel
def spOneF : Sp := fun vs H Q _ => vs = [.str "first"] ∧ ∀ H', Same H H' → Q (.bl false) H'
def spPlaceF : Sp := fun vs H Q _ => vs = [.str "first"] ∧ Q (.int 5) H
def spSumsF : Sp := fun vs H Q _ => ∃ r x mk sa sb sm lo hi, vs = [.ref r] ∧ RowF H r x mk sa sb sm lo hi ∧ ∀ H', Same H H' → Q (.ref sm) H'
def spNumF : Sp := fun vs H Q _ => ∃ r x mk sa sb sm lo hi wss c cs, vs = [.ref r, .ref c] ∧ RowF H r x mk sa sb sm lo hi ∧ SumsAt H sm wss ∧ IntsAt H c cs ∧ Few wss cs ∧ ∀ H' t, Same H H' → IntsAt H' t (numsI wss cs lo (hi - 1)) → Q (.ref t) H'
def spFrom : Sp := fun vs H Q _ => ∃ st p q m n lo h, vs = [.int m, .int n, .ref st, .int lo, .int h] ∧ TupAt H st p q ∧ Steep p q ∧ -10 ≤ m - n ∧ m - n ≤ 10 ∧ ∀ H' r, Same H H' → TupAt H' r (yesF p q lo h n m).1 (yesF p q lo h n m).2 → Q (.ref r) H'
def FirstAt (H : Hp) (r c : Addr) (x : Str) (mk : Int) (sa sb sm : Addr) (lo hi : Int) (wss : List (List Int)) (cs : List Int) (pa qa pb qb : Int) : Prop :=
  RowF H r x mk sa sb sm lo hi ∧ SumsAt H sm wss ∧ IntsAt H c cs ∧ Few wss cs ∧ TupAt H sa pa qa ∧ TupAt H sb pb qb ∧ InF pa qa pb qb mk (numsI wss cs lo (hi - 1)) lo hi
theorem FirstAt.ts {H H' : Hp} {r c : Addr} {x : Str} {mk : Int} {sa sb sm : Addr} {lo hi : Int} {wss : List (List Int)} {cs : List Int} {pa qa pb qb : Int} (t : TS H H') (h : FirstAt H r c x mk sa sb sm lo hi wss cs pa qa pb qb) : FirstAt H' r c x mk sa sb sm lo hi wss cs pa qa pb qb := by
  obtain ⟨b1, b2, b3, b4, b5, b6, b7⟩ := h
  exact ⟨t _ _ b1, b2.ts t, t _ _ b3, b4, t _ _ b5, t _ _ b6, b7⟩
/-- the table of a first, told -/
def spFirstT : Sp := fun vs H Q _ => ∃ r c x mk sa sb sm lo hi wss cs pa qa pb qb, vs = [.ref r, .ref c] ∧ FirstAt H r c x mk sa sb sm lo hi wss cs pa qa pb qb ∧
  ∀ H' t us, Same H H' → H' t = some (.tup us) → Two (Ent H') us (firstTab pa qa pb qb mk (numsI wss cs lo (hi - 1)) lo hi) → Q (.ref t) H'
def spSteepB : Sp := fun vs H Q _ => ∃ (d l : Addr) (b : Bool), vs = [.ref d, .bl b] ∧ Deal H d l ∧ ∀ (r : Addr) (p q : Int) (H' : Hp), TupAt H' r p q → Steep p q → Deal H' d l → Out d l H H' → Q (.ref r) H'
def spEnds1 : Sp := fun vs H Q _ => ∃ d l, vs = [.ref d, .int 1] ∧ Deal H d l ∧ ∀ r lo hi H', TupAt H' r lo hi → Ends1 lo hi → Deal H' d l → Out d l H H' → Q (.ref r) H'
def spThrowF : Sp := fun vs H Q _ => ∃ d l k, vs = [.ref d, .str "first", .int k] ∧ Deal H d l ∧ 1 ≤ k ∧ k ≤ 3 ∧ ∀ r x mk sa sb sm lo hi wss pa qa pb qb H', RowF H' r x mk sa sb sm lo hi → Ends1 lo hi → lo ≤ mk → mk ≤ hi → SumsAt H' sm wss → (1 ≤ wss.length ∧ wss.length ≤ 4) →
  (∀ ws ∈ wss, ws.length = k.toNat ∧ ∀ y ∈ ws, 0 ≤ y ∧ y ≤ 3) → TupAt H' sa pa qa → Steep pa qa → TupAt H' sb pb qb → Steep pb qb → Deal H' d l → Out d l H H' → Q (.ref r) H'
/-- the law's own reckoning of a first -/
def spLFirst : Sp := fun vs H Q _ => ∃ r c x mk sa sb sm lo hi wss cs pa qa pb qb, vs = [.ref r, .ref c] ∧ FirstAt H r c x mk sa sb sm lo hi wss cs pa qa pb qb ∧
  ∀ H' t ls, Same H H' → H' t = some (.tup [.ref ls, .int (wF pa qa pb qb lo hi wss.length)]) → H' ls = some (.lst (((rangeI 0 (wss.length + 1)).map (cntA (fun _ => 0) (cellsN pa qa pb qb mk (numsI wss cs lo (hi - 1)) lo hi (hi + 1 - lo).toNat))).map V.int)) → Q (.ref t) H'
theorem drop_tri {α : Type} {l : List α} {i : Nat} {x : α} (h : l[i]? = some x) : l.drop i = x :: l.drop (i + 1) := by
  obtain ⟨hi, e⟩ := List.getElem?_eq_some_iff.mp h
  rw [← e]
  exact List.drop_eq_getElem_cons hi
def spRng : Sp := fun vs H Q _ => ∃ r x mk sa sb sm lo hi, vs = [.ref r] ∧ RowF H r x mk sa sb sm lo hi ∧ ∀ H' t, Same H H' → TupAt H' t lo (hi - 1) → Q (.ref t) H'
end Mine
namespace Mine
open PySem L2
/-! ### the law's own walk of a first -/
def RungR (p q lo h : Int) (H : Hp) (v : V) (n : Int) : Prop := ∃ t ls, v = .ref t ∧ H t = some (.tup [.ref ls, .int (botI p q lo h)]) ∧ H ls = some (.lst ((sharesI p q lo h n).map V.int))
theorem RungR.same {p q lo h : Int} {H H' : Hp} {v : V} {n : Int} (s : Same H H') (r : RungR p q lo h H v n) : RungR p q lo h H' v n := let ⟨t, ls, e, a, b⟩ := r; ⟨t, ls, e, s _ _ a, s _ _ b⟩
theorem cut_drop (xs : List Int) {j : Nat} (h : j ≤ xs.length) : cutV (xs.map V.int) (some (j : Int)) none = (xs.drop j).map V.int := by
  unfold cutV
  rw [HT.sIx_nat, HT.sIx_none, List.length_map, Nat.min_eq_left h, List.map_drop, List.take_of_length_le]
  rw [List.length_drop, List.length_map]
  exact Nat.le_refl _
theorem cut_take (xs : List Int) {j : Nat} (h : j ≤ xs.length) : cutV (xs.map V.int) none (some (j : Int)) = (xs.take j).map V.int := by
  unfold cutV
  rw [HT.sIx_nat, HT.sIx_none, List.length_map, Nat.min_eq_left h, List.map_take, List.drop_zero, Nat.sub_zero]
theorem set_mapV (g : Int → Int) (v : Int) {m j : Nat} (hj : j < m) : (((rangeI 0 m).map g).map V.int).set j (.int (g (j : Int) + v)) = ((rangeI 0 m).map fun y => if y = (j : Int) then g y + v else g y).map V.int := by
  apply List.ext_getElem?
  intro i
  rw [List.getElem?_set]
  by_cases hi : i < m
  · simp only [List.getElem?_map, rangeI_get hi, Option.map_some, List.length_map, rangeI_len]
    by_cases c : j = i
    · subst c
      simp [hj]
    · have : ¬ (0 + (i : Int) = (j : Int)) := by omega
      have : ¬ ((i : Int) = (j : Int)) := by omega
      simp [c, this]
  · have e0 : (rangeI 0 m)[i]? = none := List.getElem?_eq_none (by rw [rangeI_len]; omega)
    have c : ¬ j = i := by omega
    rw [if_neg c]
    simp only [List.getElem?_map, e0, Option.map_none]
theorem cnt_snocF (c : Int → Int) (es : List (Int × Int)) (k v : Int) : cntA c (es ++ [(k, v)]) = fun y => if y = k then cntA c es y + v else cntA c es y := funext fun y => cnt_snoc c es k v y
theorem shares_lenE {p q lo h n : Int} (e : lo ≤ h) : (sharesI p q lo h n).length = (h + 1 - lo).toNat := by
  unfold sharesI
  split
  · have : (h + 1 - lo).toNat = 1 := by omega
    rw [this]; rfl
  · rw [List.length_map, rangeI_len]
theorem toNat_sub (lo : Int) (j : Nat) : (lo + (j : Int) - lo).toNat = j := by omega
structure InnerB (l D A C U P W : Int) : Prop where
  pd : D * U * P = W
  c0 : 0 ≤ l * C
  cd : l * C ≤ D * U
  du : 1 ≤ D * U
  bl : -(2 ^ 250 : Int) < l ∧ l < 2 ^ 250
  bA : -(2 ^ 250 : Int) < A ∧ A < 2 ^ 250
  bC : -(2 ^ 250 : Int) < C ∧ C < 2 ^ 250
  la : -(2 ^ 250 : Int) < l * A ∧ l * A < 2 ^ 250
  bP : -(2 ^ 250 : Int) < P ∧ P < 2 ^ 250
theorem inner_b {l D A C U P W : Int} (l0 : 0 ≤ l) (lD : l ≤ D) (D1 : 1 ≤ D) (ta : 0 ≤ A) (tc : 0 ≤ C) (tS : A + C = U) (u1 : 1 ≤ U) (p1 : 1 ≤ P) (pD : D * (U * P) = W) (w : W < 2 ^ 170) : InnerB l D A C U P W := by
  have x1 := Int.mul_nonneg l0 ta
  have x2 := Int.mul_nonneg l0 tc
  have x3 := Int.mul_pos (show 0 < D by omega) (show 0 < U by omega)
  have pD2 : D * U * P = W := by rw [Int.mul_assoc]; exact pD
  have lA : l * A ≤ D * U := Int.le_trans (Int.mul_le_mul_of_nonneg_left (show A ≤ U by omega) l0) (Int.mul_le_mul_of_nonneg_right lD (by omega))
  have lC : l * C ≤ D * U := Int.le_trans (Int.mul_le_mul_of_nonneg_left (show C ≤ U by omega) l0) (Int.mul_le_mul_of_nonneg_right lD (by omega))
  have dW := Int.mul_le_mul_of_nonneg_left p1 (show 0 ≤ D * U by omega)
  rw [Int.mul_one, pD2] at dW
  have rW := Int.mul_le_mul_of_nonneg_right (show 1 ≤ D * U by omega) (show 0 ≤ P by omega)
  rw [Int.one_mul, pD2] at rW
  have d1 := Int.mul_le_mul_of_nonneg_left u1 (show 0 ≤ D by omega)
  have d2 := Int.mul_le_mul_of_nonneg_right D1 (show 0 ≤ U by omega)
  exact ⟨pD2, x2, lC, by omega, by omega, by omega, by omega, by omega, by omega⟩
end Mine
namespace Mine
open PySem L2
/-! ### what is asked of firsts -/
def AskF (H : Hp) (v : V) : Prop := ∃ t rw c nt du x mk sa sb sm lo hi wss cs pa qa pb qb dv, v = .ref t ∧ H t = some (.tup [.ref rw, .ref c, .ref nt, .ref du]) ∧ FirstAt H rw c x mk sa sb sm lo hi wss cs pa qa pb qb ∧ IntsAt H nt (numsI wss cs lo (hi - 1)) ∧ H du = some (.tup dv) ∧ Two (Ent H) dv (firstTab pa qa pb qb mk (numsI wss cs lo (hi - 1)) lo hi)
theorem AskF.ts {H H' : Hp} {v : V} (s : TS H H') (h : AskF H v) : AskF H' v := by
  obtain ⟨t, rw, c, nt, du, x, mk, sa, sb, sm, lo, hi, wss, cs, pa, qa, pb, qb, dv, e, b1, b2, b3, b4, b5⟩ := h
  exact ⟨t, rw, c, nt, du, x, mk, sa, sb, sm, lo, hi, wss, cs, pa, qa, pb, qb, dv, e, s _ _ b1, b2.ts s, s _ _ b3, s _ _ b4, tab_ts s b5⟩
structure SomeF (H : Hp) (d l ls : Addr) (ts : List V) : Prop where
  b : DealL H d l ls ts
  asks : ∀ v ∈ ts, AskF H v
theorem SomeF.out {H H' : Hp} {d l ls : Addr} {ts : List V} (S : SomeF H d l ls ts) (D : Deal H' d l) (o : Out d l H H') : SomeF H' d l ls ts := ⟨S.b.out D o, fun v hv => (S.asks v hv).ts (TS.out S.b.deal o)⟩
theorem SomeF.same {H H' : Hp} {d l ls : Addr} {ts : List V} (S : SomeF H d l ls ts) (s : Same H H') : SomeF H' d l ls ts := ⟨S.b.same s, fun v hv => (S.asks v hv).ts (.of s)⟩
theorem SomeF.app {H : Hp} {d l ls p rw c nt du : Addr} {ts : List V} {x : Str} {mk : Int} {sa sb sm : Addr} {lo hi : Int} {wss : List (List Int)} {cs : List Int} {pa qa pb qb : Int} {dv : List V} (S : SomeF H d l ls ts) (hp : H p = none)
    (b2 : FirstAt H rw c x mk sa sb sm lo hi wss cs pa qa pb qb) (b3 : IntsAt H nt (numsI wss cs lo (hi - 1))) (b4 : H du = some (.tup dv)) (b5 : Two (Ent H) dv (firstTab pa qa pb qb mk (numsI wss cs lo (hi - 1)) lo hi)) :
    SomeF (upd (upd H p (.tup [.ref rw, .ref c, .ref nt, .ref du])) ls (.lst (ts ++ [.ref p]))) d l ls (ts ++ [.ref p]) := by
  have S1 := S.same (same_new hp (.tup [.ref rw, .ref c, .ref nt, .ref du]))
  have hp1 : upd H p (.tup [.ref rw, .ref c, .ref nt, .ref du]) p = some (.tup [.ref rw, .ref c, .ref nt, .ref du]) := upd_same
  have s := same_new hp (.tup [.ref rw, .ref c, .ref nt, .ref du])
  generalize upd H p (.tup [.ref rw, .ref c, .ref nt, .ref du]) = H1 at S1 hp1 s ⊢
  have tl : TS H1 (upd H1 ls (.lst (ts ++ [.ref p]))) := TS.lst S1.b.lst
  refine ⟨S1.b.app _, fun v hv => ?_⟩
  rcases List.mem_append.mp hv with z | z
  · exact (S1.asks v z).ts tl
  · have e : v = .ref p := by simpa using z
    have ss := (TS.of s).trans tl
    exact ⟨p, rw, c, nt, du, x, mk, sa, sb, sm, lo, hi, wss, cs, pa, qa, pb, qb, dv, e, tl _ _ hp1, b2.ts ss, ss _ _ b3, ss _ _ b4, tab_ts ss b5⟩
theorem InF.cnt {pa qa pb qb mk : Int} {ns : List Int} {lo hi : Int} (F : InF pa qa pb qb mk ns lo hi) (y : Int) : 0 ≤ cntA (fun _ => 0) (cellsN pa qa pb qb mk ns lo hi (hi + 1 - lo).toNat) y ∧ cntA (fun _ => 0) (cellsN pa qa pb qb mk ns lo hi (hi + 1 - lo).toNat) y < 2 ^ 180 := by
  have w := wF_bd F.sa F.sb F.en F.l4
  have l := F.len
  have b := cnt_bd (fun _ => 0) (cellsN pa qa pb qb mk ns lo hi (hi + 1 - lo).toNat) 0 (wF pa qa pb qb lo hi ns.length) (fun _ => ⟨Int.le_refl _, Int.le_refl _⟩) (fun e he => (F.cells e he).2) (by omega) y
  have : ((cellsN pa qa pb qb mk ns lo hi (hi + 1 - lo).toNat).length : Int) * wF pa qa pb qb lo hi ns.length ≤ 50 * wF pa qa pb qb lo hi ns.length := Int.mul_le_mul_of_nonneg_right (by omega) (by omega)
  omega
theorem InF.small {pa qa pb qb mk : Int} {ns : List Int} {lo hi : Int} (F : InF pa qa pb qb mk ns lo hi) : (∀ e ∈ firstTab pa qa pb qb mk ns lo hi, Small e) ∧ (firstTab pa qa pb qb mk ns lo hi).length ≤ 1000 := by
  have w := wF_bd F.sa F.sb F.en F.l4
  have l4 := F.l4
  unfold firstTab
  refine ⟨tabZ_small w.1 (by omega) 0 _ (Int.le_refl _) (by rw [List.length_map, rangeI_len]; omega) fun s hs => ?_, ?_⟩
  · obtain ⟨y, _, rfl⟩ := List.mem_map.mp hs
    exact F.cnt y
  · refine Nat.le_trans (tabZ_len _ _ _) ?_
    rw [List.length_map, rangeI_len]; omega
end Mine
namespace Mine
open PySem L2
def top (i : Nat) : Stmt := PySem.Challenge.pw_pairedthrows_k22_first_above_a_mark.main.body.getD i (.Pass ⟨0, 0, 0, 0⟩)
abbrev sOne : Stmt := top 1
abbrev sPlace : Stmt := top 2
abbrev sSums : Stmt := top 3
abbrev sRng : Stmt := top 4
abbrev sGcd : Stmt := top 6
abbrev sLow : Stmt := top 7
abbrev sAdd : Stmt := top 8
abbrev sTimes : Stmt := top 9
abbrev sMinus : Stmt := top 10
abbrev sPow : Stmt := top 12
abbrev sMerg : Stmt := top 15
abbrev sCut : Stmt := top 17
abbrev sUp : Stmt := top 18
abbrev sNum : Stmt := top 19
abbrev sShare : Stmt := top 20
abbrev sFar : Stmt := top 21
abbrev sTail : Stmt := top 22
abbrev sLad : Stmt := top 23
abbrev sFrom : Stmt := top 26
abbrev sFirstT : Stmt := top 27
abbrev sThr : Stmt := top 28
abbrev sDeal : Stmt := top 30
abbrev sDraw : Stmt := top 31
abbrev sLPow : Stmt := top 32
abbrev sLLow : Stmt := top 33
abbrev sSteep : Stmt := top 34
abbrev sName : Stmt := top 35
abbrev sEnds : Stmt := top 36
abbrev sCrowd : Stmt := top 37
abbrev sSum : Stmt := top 38
abbrev sThrow : Stmt := top 39
abbrev sLNum : Stmt := top 40
abbrev sRungs : Stmt := top 41
abbrev sTab : Stmt := top 42
abbrev sLFirst : Stmt := top 43
abbrev sLaw : Stmt := top 44
section
variable {P : Program} {w : World} {K : PySem.W.Frag} {mg : Str → Option Value} {base : Heap}
theorem scDraw : FnScope ["_law_deal_here", "_law_many", "_law_number_here", "_law_one", "_law_other"] ["_law_deal_here", "_law_many"] (defScope sDraw) := ⟨rfl, rfl, rfl, by decide +kernel, rfl, by decide +kernel, by decide +kernel⟩
theorem ok_draw {f : Addr} {fd : FuncData} (F : Fun K "_law_draw" "_law_draw" sDraw f fd) (ml : mg "len" = none) : FnOk P w K mg base CX0 1 f fd ["_law_deal_here", "_law_many"] spDraw := by
  refine F.ok scDraw (fun vs H Q E h => ?_) (fun cdv A outer s H vs Q E hr h => ?_)
  · obtain ⟨d, l, m, rfl, _⟩ := h
    rfl
  obtain ⟨d, l, m, rfl, ⟨sd, n, ls, D⟩, hm0, hm1, k⟩ := h
  have hu := hu_of hr
  refine ⟨_, pss_cons (ps_while PassesOwn.never (pw_and (pt_cmpR op_eq (pe_dget hu (pv 0) pe_str (fun _ _ => rfl)) pe_int (nomark _)) (pw_and1 (pt_cmpR op_gt (pe_callB call_len_seq (by rfl) ml PySem.boot_len (pa_cons (pe_dget hu (pv 0) pe_str (fun _ _ => rfl)) pa_nil)) pe_int (nomark _)))).pt
      (pss_one (ps_dput hu (pv 0) pe_str (pe_bm0 PySem.F.plainAttrs_list PySem.F.slot_list_pop PySem.F.type_list_pop mt_pop (pe_dget hu (pv 0) pe_str (fun _ _ => rfl))) rfl)))
    (pss_cons (ps_set (i := 2) scDraw.nd rfl (Or.inl rfl) (pe_dget hu (pv 0) pe_str (fun _ _ => rfl)))
    (pss_cons (ps_if (pt_cmpR op_gt (pv 2) pe_int (nomark _))
      (pss_cons (ps_dput hu (pv 0) pe_str (pe_op op_fdivB (pv 2) (pv 1)) rfl) (pss_one (ps_ret (pe_op op_mod (pv 2) (pv 1))))) pss_nil)
    (pss_cons (ps_set (i := 3) scDraw.nd rfl (Or.inl rfl) (pe_op op_mod (pe_op op_add (pe_op op_mul (pe_dget hu (pv 0) pe_str (fun _ _ => rfl)) pe_int) pe_int) pe_int))
    (pss_cons (ps_dput hu (pv 0) pe_str (pe_op op_mod (pe_op op_add (pe_op op_mul (pv 3) pe_int) pe_int) pe_int) rfl)
    (pss_cons (ps_set (i := 4) scDraw.nd rfl (Or.inl rfl) (pe_op op_mod (pe_op op_mul (pe_dget hu (pv 0) pe_str (fun _ _ => rfl)) (pe_dget hu (pv 0) pe_str (fun _ _ => rfl))) pe_int))
    (pss_one (ps_ret (pe_op op_mod (pe_op op_add (pe_op op_mul (pe_op op_mod (pe_op op_mul (pv 3) (pv 3)) pe_int) pe_int) (pv 4)) (pv 1))))))))), ?_⟩
  -- the while: numbers are taken until one is above 0, or none is left
  refine ⟨fun j σ H1 => ∃ n' ls', σ = [some (.ref d), some (.int m), none, none, none] ∧ DealAt H1 d l sd n' ls' ∧ j = ls'.length ∧ Out d l H H1, ⟨_, n, ls, rfl, D, rfl, Out.refl H⟩, ?_⟩
  rintro j σ H1 ⟨n', ls', rfl, D1, rfl, o1⟩
  refine ⟨_, rfl, d, _, rfl, D1.gn, rfl, _, rfl, ?_⟩
  refine ite2 (fun c => ?a) (fun c => iteF ?b)
  case' a => refine ⟨_, rfl, d, _, rfl, D1.gl, l, _, rfl, .inl (SqL.of D1.lc), _, _, rfl, rfl, _, rfl, ?_⟩
  case' a => refine ite2 (fun c2 => ?loop) (fun c2 => ?b2)
  case loop =>
      -- one is popped
      have hl : 0 < ls'.length := by
        have := of_decide_eq_true c2
        simpa using this
      obtain ⟨z, hz⟩ : ∃ z, ls'[ls'.length - 1]? = some z := ⟨ls'[ls'.length - 1], by simp⟩
      have hz2 : (ls'.map V.int)[(ls'.map V.int).length - 1]? = some (.int z) := by rw [List.length_map, List.getElem?_map, hz]; rfl
      have z0 : 0 ≤ z := D1.l0 z (List.mem_of_getElem? hz)
      have D2 : DealAt (upd H1 l (.lst (ls'.dropLast.map V.int))) d l sd n' ls'.dropLast := D1.left fun x hx => D1.l0 x (List.dropLast_subset _ hx)
      refine ⟨fun σ' H' => σ' = [some (.ref d), some (.int m), none, none, none] ∧ DealAt H' d l sd z ls'.dropLast ∧ Out d l H H', fun σ' H' q => ⟨_, by rw [List.length_dropLast]; omega, z, ls'.dropLast, q.1, q.2.1, rfl, q.2.2⟩, ?_⟩
      refine ⟨_, rfl, d, _, rfl, D1.gl, .inl ⟨rfl, _, SqL.of D1.lc⟩, l, _, _, rfl, rfl, D1.lc, hz2, ?_⟩
      have e : ∀ (o : List V), (ls'.map V.int).dropLast = o → upd H1 l (.lst (ls'.map V.int).dropLast) = upd H1 l (.lst o) := fun o e => by rw [e]
      rw [e _ List.map_dropLast.symm]
      refine ⟨_, rfl, d, _, rfl, D2.pn z, rfl, D2.number z0, o1.trans (Out.upd_l.trans Out.upd_d)⟩
  all_goals
    refine ⟨_, rfl, d, _, rfl, D1.gn, ?_⟩
    refine ⟨_, rfl, _, _, rfl, rfl, _, rfl, ?_⟩
    refine ite2 (fun c3 => ?_) (fun c3 => ?_)
    · have hp : 0 < n' := of_decide_eq_true c3
      refine ⟨_, rfl, _, rfl, _, _, rfl, rfl, ⟨hm0, by omega⟩, _, rfl, d, _, rfl, D1.pn (n' / m), ?_⟩
      refine ⟨_, rfl, _, rfl, _, _, rfl, rfl, hm0, ?_⟩
      exact k _ _ (Int.emod_nonneg _ (by omega)) (Int.emod_lt_of_pos _ hm0) ⟨_, _, _, D1.number (Int.ediv_nonneg (by omega) (by omega))⟩ (o1.trans Out.upd_d)
    · -- a number by the seed
      have q1 : (0 : Int) < 2147483647 := by decide
      refine ⟨_, rfl, d, _, rfl, D1.gs, _, _, rfl, rfl, .inr ⟨by decide, by decide⟩, _, _, rfl, rfl, _, _, rfl, rfl, q1, ?_⟩
      have q2 : (0 : Int) < 2147483399 := by decide
      refine ⟨_, rfl, _, _, rfl, rfl, .inr ⟨by decide, by decide⟩, _, _, rfl, rfl, _, _, rfl, rfl, q2, _, rfl, d, _, rfl, D1.ps _, ?_⟩
      have D2 := D1.seed (v := ((sd * 48271 + 7919) % 2147483647 * 40692 + 104729) % 2147483399) (by omega) (by omega)
      have q3 : (0 : Int) < 2147483563 := by decide
      have q4 : (0 : Int) < 2147483629 := by decide
      refine ⟨_, rfl, d, _, rfl, D2.gs, _, rfl, d, _, rfl, D2.gs, _, _, rfl, rfl, .inr ⟨by omega, by omega⟩, _, _, rfl, rfl, q3, ?_⟩
      refine ⟨_, rfl, _, rfl, _, _, rfl, rfl, .inr ⟨by omega, by omega⟩, _, _, rfl, rfl, q4, _, _, rfl, rfl, .inr ⟨by decide, by decide⟩, _, rfl, _, _, rfl, rfl, _, rfl, _, _, rfl, rfl, hm0, ?_⟩
      exact k _ _ (Int.emod_nonneg _ (by omega)) (Int.emod_lt_of_pos _ hm0) ⟨_, _, _, D2⟩ (o1.trans Out.upd_d)
end
end Mine
namespace Mine
open PySem L2
theorem merge_deal (x n : Int) (l : Addr) : mergeK [] (dealK x n l) = dealK x n l := by
  unfold mergeK dealK
  simp only [List.foldl_cons, List.foldl_nil]
  have e1 : putK ([] : List (Key × V)) (Sum.inr ("seed" : Str)) (V.int x) = [(Sum.inr ("seed" : Str), V.int x)] := rfl
  have e2 : putK [(Sum.inr ("seed" : Str), V.int x)] (Sum.inr ("number" : Str) : Key) (V.int n) = [(Sum.inr ("seed" : Str), V.int x), (Sum.inr ("number" : Str), V.int n)] := putK_new _ (by rw [valV_neg ksn, valV_nil])
  have e3 : putK [(Sum.inr ("seed" : Str), V.int x), (Sum.inr ("number" : Str), V.int n)] (Sum.inr ("left" : Str) : Key) (V.ref l) = [(Sum.inr ("seed" : Str), V.int x), (Sum.inr ("number" : Str), V.int n)] ++ [(Sum.inr ("left" : Str), V.ref l)] := putK_new _ (by rw [valV_neg ksl, valV_neg knl, valV_nil])
  rw [e1, e2, e3]
  rfl
theorem ndCell : (["_law_cell"] : List Str).Nodup := by decide +kernel
theorem cut_ints (ns : List Int) (lo hi : Option Int) : ∃ ms : List Int, cutV (ns.map V.int) lo hi = ms.map V.int ∧ ms.length ≤ ns.length := by
  refine ⟨(ns.drop (HT.sIx ns.length 0 lo)).take (HT.sIx ns.length ns.length hi - HT.sIx ns.length 0 lo), ?_, ?_⟩
  · unfold cutV
    rw [List.length_map, List.map_take, List.map_drop]
  · rw [List.length_take, List.length_drop]; omega
section
variable {P : Program} {w : World} {K : PySem.W.Frag} {mg : Str → Option Value} {base : Heap}
theorem scDeal : FnScope ["_law_script", "_law_base", "_law_cells", "_law_number_here", "_law_cell"] ["_law_script", "_law_base"] (defScope sDeal) := ⟨rfl, rfl, rfl, by decide +kernel, rfl, by decide +kernel, by decide +kernel⟩
theorem ok_deal {f : Addr} {fd : FuncData} (F : Fun K "_law_deal" "_law_deal" sDeal f fd) (mm : mg "max" = none) (mr : mg "reversed" = none) (ml : mg "list" = none) : FnOk P w K mg base CX0 1 f fd ["_law_script", "_law_base"] (spDeal K) := by
  refine F.ok scDeal (fun vs H Q E h => ?_) (fun cdv A outer s H vs Q E hr h => ?_)
  · obtain ⟨a, ns, b, rfl, _⟩ := h
    rfl
  obtain ⟨a, ns, b, rfl, hS, hlen, hb0, hb1, k⟩ := h
  refine ⟨_, pss_cons (ps_setC ["_law_cell"] [none] (i := 2) scDeal.nd rfl (Or.inl rfl) (pi_list (pe_slice sl_list (pv 0) (po_some (pv 1)) (po_some pe_int)))
      (fun _ _ _ _ => pg_name (i := 0) ndCell rfl (Or.inl rfl)) (fun _ _ _ _ => pf_nil) (fun _ _ _ _ => pe_callB (call_max2 rfl) (by rfl) mm PyProof.Rows.boot_max (pa_cons (pv 0) (pa_cons (pe_op op_sub pe_int (pv 0)) pa_nil))))
    (pss_cons (ps_set (i := 3) scDeal.nd rfl (Or.inl rfl) (pe_op op_add pe_int (pv 1)))
    (pss_cons (ps_for PassesOwn.never rfl (pi_list (pv 2)) (pg_name (i := 4) scDeal.nd rfl (Or.inl rfl))
      (pss_one (ps_set (i := 3) scDeal.nd rfl (Or.inl rfl) (pe_op op_mod (pe_op op_add (pe_op op_mul (pv 3) pe_int) (pe_op op_mod (pv 4) pe_int)) pe_int))))
    (pss_one (ps_ret (pe_disp (pps_cons pe_str (pv 3) (pps_cons pe_str pe_int (pps_cons pe_str (pe_listrev (pe_comp ["_law_cell"] [none] (pi_list (pv 2))
      (fun _ _ _ _ => pg_name (i := 0) ndCell rfl (Or.inl rfl)) (fun _ _ _ _ => pf_one (pt_cmpR op_ge (pv 0) (pe_op op_pow pe_int pe_int) (nomark _))) (fun _ _ _ _ => pv 0)) (by rfl) ml (by rfl) mr) pps_nil))) rfl rfl (by decide) (by decide)))))), ?_⟩
  -- cells: the greatness of each
  refine ⟨_, rfl, _, rfl, _, rfl, _, rfl, a, _, rfl, hS, fun p1 np1 => ?_⟩
  obtain ⟨ms, em, hms⟩ := cut_ints ns (some b) (some 63)
  have g1 : Same H (upd H p1 (.lst (cutV (ns.map V.int) (some b) (some 63)))) := same_new np1 _
  have hp1 : SqL K (upd H p1 (.lst (cutV (ns.map V.int) (some b) (some 63)))) p1 (ms.map V.int) := by rw [em]; exact SqL.of upd_same
  generalize upd H p1 (.lst (cutV (ns.map V.int) (some b) (some 63))) = H1 at g1 hp1 ⊢
  refine ⟨p1, rfl, ⟨_, hp1⟩, comp_list (xs := ms.map V.int) (fun i ys σ H2 => H2 = H1 ∧ (∃ v, σ = [v]) ∧ ∃ cs : List Int, ys = cs.map V.int ∧ cs.length = i ∧ ∀ x ∈ cs, 0 ≤ x)
    (by rw [List.length_map]; exact small1000 (by omega)) ⟨rfl, ⟨_, rfl⟩, [], rfl, rfl, fun _ z => nomatch z⟩ (fun i ys σ H2 ⟨_, _, cs, e1, e2, _⟩ => by rw [e1, List.length_map]; omega) (fun i ys σ H2 _ ⟨e, _⟩ => by rw [e]; exact hp1) ?_ ?_⟩
  · rintro i x ys σ H2 hx ⟨rfl, ⟨v, rfl⟩, cs, rfl, rfl, h0⟩
    obtain ⟨z, rfl, _⟩ := ints_at hx
    refine ⟨_, rfl, _, rfl, _, _, rfl, rfl, _, _, rfl, rfl, ⟨_, rfl⟩, cs ++ [if 0 - z > z then 0 - z else z], by rw [List.map_append]; rfl, by rw [List.length_append]; rfl, fun x hx => ?_⟩
    rcases List.mem_append.mp hx with q | q
    · exact h0 x q
    · have e : x = if 0 - z > z then 0 - z else z := by simpa using q
      rw [e]; split <;> omega
  rintro ys σ H2 ⟨rfl, _, cs, rfl, hcs, h0⟩ p2 np2
  have hm63 : cs.length ≤ 63 := by rw [List.length_map] at hcs; omega
  have g2 : Same H2 (upd H2 p2 (.lst (cs.map V.int))) := same_new np2 _
  have hp2 : SqL K (upd H2 p2 (.lst (cs.map V.int))) p2 (cs.map V.int) := SqL.of upd_same
  generalize upd H2 p2 (.lst (cs.map V.int)) = H3 at g2 hp2 ⊢
  -- number = 7919 + base
  refine ⟨_, rfl, _, _, rfl, rfl, ?_⟩
  -- for cell in cells
  refine ⟨_, rfl, p2, rfl, ⟨_, hp2⟩, for_list (K := K) (a := p2) (xs := cs.map V.int) (fun i σ H4 => H4 = H3 ∧ ∃ (x : Int) (v : Option V), σ = [some (.ref a), some (.int b), some (.ref p2), some (.int x), v] ∧ 0 ≤ x ∧ x < 2147483647)
    ⟨rfl, 7919 + b, none, rfl, by omega, by omega⟩ (fun i σ H4 _ ⟨e, _⟩ => by rw [e]; exact hp2) ?_ ?_⟩
  · rintro i y σ H4 hi ⟨rfl, x, v, rfl, x0, x1⟩
    obtain ⟨z, rfl, _⟩ := ints_at hi
    have q1 : (0 : Int) < 2147483629 := by decide
    have q2 : (0 : Int) < 2147483647 := by decide
    refine ⟨_, rfl, _, _, rfl, rfl, .inr ⟨by decide, by decide⟩, _, rfl, _, _, rfl, rfl, q1, _, _, rfl, rfl, _, _, rfl, rfl, q2, rfl, _, _, rfl, ?_, ?_⟩
    · exact Int.emod_nonneg _ (by decide)
    · exact Int.emod_lt_of_pos _ q2
  rintro σ H4 ⟨rfl, x, v, rfl, x0, x1⟩
  -- the dict
  intro d nd
  have g4 : Same H4 (upd H4 d (.dK [])) := same_new nd _
  have hd4 : upd H4 d (.dK []) d = some (.dK []) := upd_same
  have hp4 := g4.seq hp2
  refine ⟨_, rfl, _, rfl, p2, rfl, ⟨_, hp4⟩, ?_⟩
  generalize upd H4 d (.dK []) = H5 at g4 hd4 hp4 ⊢
  refine comp_list (xs := cs.map V.int) (fun i ys σ H6 => H6 = H5 ∧ (∃ v, σ = [v]) ∧ ∃ ls : List Int, ys = ls.map V.int ∧ ls.length ≤ i ∧ ∀ x ∈ ls, 0 ≤ x)
    (by rw [List.length_map]; exact small1000 (by omega)) ⟨rfl, ⟨_, rfl⟩, [], rfl, Nat.le_refl _, fun _ z => nomatch z⟩ (fun i ys σ H2 ⟨_, _, cs, e1, e2, _⟩ => by rw [e1, List.length_map]; omega) (fun i ys σ H2 _ ⟨e, _⟩ => by rw [e]; exact hp4) ?_ ?_
  · rintro i y ys σ H6 hy ⟨rfl, ⟨v', rfl⟩, ls, rfl, hl, l0⟩
    obtain ⟨z, rfl, hz⟩ := ints_at hy
    have z0 : 0 ≤ z := h0 z (List.mem_of_getElem? hz)
    refine ⟨_, rfl, _, _, rfl, rfl, ⟨by decide, by decide, by decide⟩, _, _, rfl, rfl, _, rfl, ?_⟩
    refine ite2 (fun c => ?_) (fun c => ?_)
    · refine ⟨_, rfl, rfl, ⟨_, rfl⟩, ls ++ [z], by rw [List.map_append]; rfl, by rw [List.length_append]; show ls.length + 1 ≤ i + 1; omega, fun x hx => ?_⟩
      rcases List.mem_append.mp hx with q | q
      · exact l0 x q
      · have e : x = z := by simpa using q
        rw [e]; exact z0
    · exact ⟨rfl, ⟨_, rfl⟩, ls, rfl, Nat.le_succ_of_le hl, l0⟩
  rintro ys σ H6 ⟨rfl, _, ls, rfl, hl, l0⟩ p3 np3
  have g5 : Same H6 (upd H6 p3 (.lst (ls.map V.int))) := same_new np3 _
  refine ⟨p3, _, rfl, SqL.of upd_same, fun l nl => ?_⟩
  generalize upd H6 p3 (.lst (ls.map V.int)) = H7 at g5 nl ⊢
  have g6 : Same H7 (upd H7 l (.lst (ls.map V.int).reverse)) := same_new nl _
  have hd7 : H7 d = some (.dK []) := g5 _ _ hd4
  refine ⟨g6 _ _ hd7, dealK x 0 l, rfl, by show 3 ≤ 15; decide, ?_⟩
  have em : mergeK [] (dealK x 0 l) = dealK x 0 l := merge_deal _ _ _
  have neld : l ≠ d := fun z => by rw [z] at nl; rw [nl] at hd7; cases hd7
  refine k d l _ ?_ ?_ ⟨x, 0, ls.reverse, ⟨by rw [em]; exact upd_same, by rw [upd_ne neld, upd_same, List.map_reverse], x0, x1, Int.le_refl 0, fun y hy => l0 y (by simpa using hy)⟩⟩ ?_
  · exact (g1.trans g2).free nd
  · exact (g1.trans (g2.trans (g4.trans g5))).free nl
  · intro c o e
    rw [upd_ne (ne_of_none e ((g1.trans g2).free nd))]
    exact (g1.trans (g2.trans (g4.trans (g5.trans g6)))) c o e
end
end Mine
namespace Mine
open PySem L2
section
variable {P : Program} {w : World} {K : PySem.W.Frag} {mg : Str → Option Value} {base : Heap}
theorem scGcd : FnScope ["one", "other", "remainder"] ["one", "other"] (defScope sGcd) := ⟨rfl, rfl, rfl, by decide +kernel, rfl, by decide +kernel, by decide +kernel⟩
theorem ok_Gcd {f : Addr} {fd : FuncData} (F : Fun K "common_divisor" "common_divisor" sGcd f fd)
     :
    FnOk P w K mg base CX0 1 f fd ["one", "other"] spGcd := by
  refine F.ok scGcd (fun vs H Q E h => ?_) (fun cdv A outer s H vs Q E hr h => ?_)
  · obtain ⟨a, b, rfl, _⟩ := h
    rfl
  obtain ⟨a, b, rfl, ha, hb, k⟩ := h
  have hu := hu_of hr
  refine ⟨_, (pss_cons (ps_while PassesOwn.never (pt_cmpR op_ne (pv 1) pe_int (nomark _))
    (pss_cons (ps_set (i := 2) scGcd.nd rfl (Or.inl rfl) (pe_op op_mod (pv 0) (pv 1)))
    (pss_cons (ps_set (i := 0) scGcd.nd rfl (Or.inl rfl) (pv 1))
    (pss_one (ps_set (i := 1) scGcd.nd rfl (Or.inl rfl) (pv 2))))))
    (pss_one (ps_ret (pv 0)))), ?_⟩
  refine ⟨fun j σ H1 => H1 = H ∧ ∃ (x y : Int) (r : Option V), σ = [some (.int x), some (.int y), r] ∧ 0 ≤ x ∧ 0 ≤ y ∧ gI x y = gI a b ∧ j = y.toNat, ⟨_, rfl, a, b, none, rfl, ha, hb, rfl, rfl⟩, ?_⟩
  rintro j σ H1 ⟨rfl, x, y, r, rfl, hx, hy, hg, rfl⟩
  refine ⟨_, rfl, rfl, _, rfl, ?_⟩
  by_cases y0 : y = 0
  · subst y0
    refine iteNS rfl ⟨_, rfl, ?_⟩
    rw [← hg, gcd_end hx] at k
    exact k
  · have yp : 0 < y := by omega
    have e : (!decide (V.int y = V.int 0)) = true := by simp [y0]
    rw [e]
    refine ⟨fun σ' H' => H' = H1 ∧ ∃ r', σ' = [some (.int y), some (.int (x % y)), r'], fun σ' H' ⟨e1, r', e2⟩ => ⟨(x % y).toNat, ?_, e1, y, x % y, r', e2, hy, Int.emod_nonneg _ y0, (step_gcd hx yp).trans hg, rfl⟩, ?_⟩
    · have := Int.emod_lt_of_pos x yp
      have := Int.emod_nonneg x y0
      omega
    · exact ⟨_, rfl, _, rfl, _, _, rfl, rfl, yp, _, rfl, _, rfl, rfl, _, rfl⟩
theorem scLow : FnScope ["top", "bottom", "divisor"] ["top", "bottom"] (defScope sLow) := ⟨rfl, rfl, rfl, by decide +kernel, rfl, by decide +kernel, by decide +kernel⟩
theorem ok_Low {f : Addr} {fd : FuncData} (F : Fun K "lowest" "lowest" sLow f fd)
    {f_Gcd : Addr} {d_Gcd : FuncData} (G_Gcd : FnOk P w K mg base CX0 1 f_Gcd d_Gcd ["one", "other"] spGcd) (b_Gcd : Binds K d_Gcd ["one", "other"] []) (k_Gcd : PySem.W.keepIn K (.ref f_Gcd) = true) (m_Gcd : mg "common_divisor" = some (.ref f_Gcd))
     :
    FnOk P w K mg base CX0 2 f fd ["top", "bottom"] spLow := by
  refine F.ok scLow (fun vs H Q E h => ?_) (fun cdv A outer s H vs Q E hr h => ?_)
  · obtain ⟨a, b, rfl, _⟩ := h
    rfl
  obtain ⟨a, b, rfl, ha, hb, hz, k⟩ := h
  have hu := hu_of hr
  have hr1 : Room 1 _ := hr.mono (by decide)
  refine ⟨_, (pss_cons (ps_set (i := 2) scLow.nd rfl (Or.inl rfl) (pe_call G_Gcd hr1 (by rfl) m_Gcd k_Gcd b_Gcd .nil pass0 (pa_cons (pv 0) (pa_cons (pv 1) pa_nil))))
    (pss_one (ps_ret (pe_tup (pa_cons (pe_op op_fdivC (pv 0) (pv 2)) (pa_cons (pe_op op_fdivC (pv 1) (pv 2)) pa_nil)))))), ?_⟩
  have g0 : 0 < gI a b := gI_pos hb
  have g1 : gI a b < 2 ^ 200 * 2 ^ 200 := Int.lt_of_le_of_lt (gI_le hb) hz
  refine ⟨_, rfl, _, rfl, a, b, rfl, ha, by omega, ?_⟩
  refine ⟨_, rfl, _, rfl, _, _, rfl, rfl, ⟨g0, g1⟩, _, rfl, _, rfl, _, _, rfl, rfl, ⟨g0, g1⟩, by show 2 ≤ sizeLine; decide, fun p hp => k p hp⟩
theorem scAdd : FnScope ["one", "other"] ["one", "other"] (defScope sAdd) := ⟨rfl, rfl, rfl, by decide +kernel, rfl, by decide +kernel, by decide +kernel⟩
theorem ok_Add {f : Addr} {fd : FuncData} (F : Fun K "added" "added" sAdd f fd)
    {f_Low : Addr} {d_Low : FuncData} (G_Low : FnOk P w K mg base CX0 2 f_Low d_Low ["top", "bottom"] spLow) (b_Low : Binds K d_Low ["top", "bottom"] []) (k_Low : PySem.W.keepIn K (.ref f_Low) = true) (m_Low : mg "lowest" = some (.ref f_Low))
     :
    FnOk P w K mg base CX0 3 f fd ["one", "other"] spAdd := by
  refine F.ok scAdd (fun vs H Q E h => ?_) (fun cdv A outer s H vs Q E hr h => ?_)
  · obtain ⟨p, q, u, e, rfl, _⟩ := h
    rfl
  obtain ⟨p, q, ⟨a, b⟩, ⟨c, d⟩, rfl, hp, hq, ⟨ha, hb, b1⟩, ⟨hc, hd, d1⟩, k⟩ := h
  have hu := hu_of hr
  have hr1 : Room 1 _ := hr.mono (by decide)
  have hr2 : Room 2 _ := hr.mono (by decide)
  refine ⟨_, (pss_one (ps_ret (pe_call G_Low hr2 (by rfl) m_Low k_Low b_Low .nil pass0 (pa_cons (pe_op op_add (pe_op op_mulB (pe_ix ix_tup (pv 0) pe_int (fun _ _ => rfl)) (pe_ix ix_tup (pv 1) pe_int (fun _ _ => rfl))) (pe_op op_mulB (pe_ix ix_tup (pv 1) pe_int (fun _ _ => rfl)) (pe_ix ix_tup (pv 0) pe_int (fun _ _ => rfl)))) (pa_cons (pe_op op_mulB (pe_ix ix_tup (pv 0) pe_int (fun _ _ => rfl)) (pe_ix ix_tup (pv 1) pe_int (fun _ _ => rfl))) pa_nil))))), ?_⟩
  replace ha : B72 a := ha
  replace hb : B72 b := hb
  replace hc : B72 c := hc
  replace hd : B72 d := hd
  replace b1 : 1 ≤ b := b1
  replace d1 : 1 ≤ d := d1

  have m1 := mul_bd ha.1 ha.2 hd.1 hd.2
  have m0 := mul_bd hc.1 hc.2 hb.1 hb.2
  have m2 := mul_bd hb.1 hb.2 hd.1 hd.2
  have m3 : 1 ≤ b * d := by have := Int.mul_pos (show 0 < b by omega) (show 0 < d by omega); omega
  refine ⟨_, rfl, p, _, _, _, rfl, rfl, SqT.of hp, ix0 a b, _, rfl, q, _, _, _, rfl, rfl, SqT.of hq, ix1 c d, _, _, rfl, rfl, ⟨ha.below, hd.below⟩, ?_⟩
  refine ⟨_, rfl, q, _, _, _, rfl, rfl, SqT.of hq, ix0 c d, _, rfl, p, _, _, _, rfl, rfl, SqT.of hp, ix1 a b, _, _, rfl, rfl, ⟨hc.below, hb.below⟩, _, _, rfl, rfl, ?_⟩
  refine ⟨_, rfl, p, _, _, _, rfl, rfl, SqT.of hp, ix1 a b, _, rfl, q, _, _, _, rfl, rfl, SqT.of hq, ix1 c d, _, _, rfl, rfl, ⟨hb.below, hd.below⟩, ?_⟩
  exact ⟨_, _, rfl, by omega, m3, Int.lt_trans m2.2 (by decide), k⟩
theorem scTimes : FnScope ["one", "other"] ["one", "other"] (defScope sTimes) := ⟨rfl, rfl, rfl, by decide +kernel, rfl, by decide +kernel, by decide +kernel⟩
theorem ok_Times {f : Addr} {fd : FuncData} (F : Fun K "times" "times" sTimes f fd)
    {f_Low : Addr} {d_Low : FuncData} (G_Low : FnOk P w K mg base CX0 2 f_Low d_Low ["top", "bottom"] spLow) (b_Low : Binds K d_Low ["top", "bottom"] []) (k_Low : PySem.W.keepIn K (.ref f_Low) = true) (m_Low : mg "lowest" = some (.ref f_Low))
     :
    FnOk P w K mg base CX0 3 f fd ["one", "other"] spTimes := by
  refine F.ok scTimes (fun vs H Q E h => ?_) (fun cdv A outer s H vs Q E hr h => ?_)
  · obtain ⟨p, q, a, b, c, d, rfl, _⟩ := h
    rfl
  obtain ⟨p, q, a, b, c, d, rfl, hp, hq, ha, hb, hc, hd, b1, d1, k⟩ := h
  have hu := hu_of hr
  have hr1 : Room 1 _ := hr.mono (by decide)
  have hr2 : Room 2 _ := hr.mono (by decide)
  refine ⟨_, (pss_one (ps_ret (pe_call G_Low hr2 (by rfl) m_Low k_Low b_Low .nil pass0 (pa_cons (pe_op op_mulB (pe_ix ix_tup (pv 0) pe_int (fun _ _ => rfl)) (pe_ix ix_tup (pv 1) pe_int (fun _ _ => rfl))) (pa_cons (pe_op op_mulB (pe_ix ix_tup (pv 0) pe_int (fun _ _ => rfl)) (pe_ix ix_tup (pv 1) pe_int (fun _ _ => rfl))) pa_nil))))), ?_⟩
  have m1 := mul_bd ha.1 ha.2 hc.1 hc.2
  have m2 := mul_bd hb.1 hb.2 hd.1 hd.2
  have m3 : 1 ≤ b * d := by have := Int.mul_pos (show 0 < b by omega) (show 0 < d by omega); omega
  refine ⟨_, rfl, p, _, _, _, rfl, rfl, SqT.of hp, ix0 a b, _, rfl, q, _, _, _, rfl, rfl, SqT.of hq, ix0 c d, _, _, rfl, rfl, ⟨ha.below, hc.below⟩, ?_⟩
  refine ⟨_, rfl, p, _, _, _, rfl, rfl, SqT.of hp, ix1 a b, _, rfl, q, _, _, _, rfl, rfl, SqT.of hq, ix1 c d, _, _, rfl, rfl, ⟨hb.below, hd.below⟩, ?_⟩
  exact ⟨_, _, rfl, m1.1, m3, Int.lt_trans m2.2 (by decide), k⟩
theorem scMinus : FnScope ["one", "other"] ["one", "other"] (defScope sMinus) := ⟨rfl, rfl, rfl, by decide +kernel, rfl, by decide +kernel, by decide +kernel⟩
theorem ok_Minus {f : Addr} {fd : FuncData} (F : Fun K "minus" "minus" sMinus f fd)
    {f_Low : Addr} {d_Low : FuncData} (G_Low : FnOk P w K mg base CX0 2 f_Low d_Low ["top", "bottom"] spLow) (b_Low : Binds K d_Low ["top", "bottom"] []) (k_Low : PySem.W.keepIn K (.ref f_Low) = true) (m_Low : mg "lowest" = some (.ref f_Low))
     :
    FnOk P w K mg base CX0 3 f fd ["one", "other"] spMinus := by
  refine F.ok scMinus (fun vs H Q E h => ?_) (fun cdv A outer s H vs Q E hr h => ?_)
  · obtain ⟨p, q, a, b, c, d, rfl, _⟩ := h
    rfl
  obtain ⟨p, q, a, b, c, d, rfl, hp, hq, ha, hb, hc, hd, b1, d1, hle, k⟩ := h
  have hu := hu_of hr
  have hr1 : Room 1 _ := hr.mono (by decide)
  have hr2 : Room 2 _ := hr.mono (by decide)
  refine ⟨_, (pss_one (ps_ret (pe_call G_Low hr2 (by rfl) m_Low k_Low b_Low .nil pass0 (pa_cons (pe_op op_sub (pe_op op_mulB (pe_ix ix_tup (pv 0) pe_int (fun _ _ => rfl)) (pe_ix ix_tup (pv 1) pe_int (fun _ _ => rfl))) (pe_op op_mulB (pe_ix ix_tup (pv 1) pe_int (fun _ _ => rfl)) (pe_ix ix_tup (pv 0) pe_int (fun _ _ => rfl)))) (pa_cons (pe_op op_mulB (pe_ix ix_tup (pv 0) pe_int (fun _ _ => rfl)) (pe_ix ix_tup (pv 1) pe_int (fun _ _ => rfl))) pa_nil))))), ?_⟩
  have m2 := mul_bd hb.1 hb.2 hd.1 hd.2
  have m3 : 1 ≤ b * d := by have := Int.mul_pos (show 0 < b by omega) (show 0 < d by omega); omega
  refine ⟨_, rfl, p, _, _, _, rfl, rfl, SqT.of hp, ix0 a b, _, rfl, q, _, _, _, rfl, rfl, SqT.of hq, ix1 c d, _, _, rfl, rfl, ⟨ha.below, hd.below⟩, ?_⟩
  refine ⟨_, rfl, q, _, _, _, rfl, rfl, SqT.of hq, ix0 c d, _, rfl, p, _, _, _, rfl, rfl, SqT.of hp, ix1 a b, _, _, rfl, rfl, ⟨hc.below, hb.below⟩, _, _, rfl, rfl, ?_⟩
  refine ⟨_, rfl, p, _, _, _, rfl, rfl, SqT.of hp, ix1 a b, _, rfl, q, _, _, _, rfl, rfl, SqT.of hq, ix1 c d, _, _, rfl, rfl, ⟨hb.below, hd.below⟩, ?_⟩
  exact ⟨_, _, rfl, by omega, m3, Int.lt_trans m2.2 (by decide), k⟩
theorem scPow : FnScope ["one", "k", "top", "bottom", "step"] ["one", "k"] (defScope sPow) := ⟨rfl, rfl, rfl, by decide +kernel, rfl, by decide +kernel, by decide +kernel⟩
theorem ok_Pow {f : Addr} {fd : FuncData} (F : Fun K "power" "power" sPow f fd)
    (m_range : mg "range" = none) :
    FnOk P w K mg base CX0 1 f fd ["one", "k"] spPow := by
  refine F.ok scPow (fun vs H Q E h => ?_) (fun cdv A outer s H vs Q E hr h => ?_)
  · obtain ⟨p, a, b, n, rfl, _⟩ := h
    rfl
  obtain ⟨p, a, b, n, rfl, hp, a0, a9, b0, b9, n0, n1, k⟩ := h
  have hu := hu_of hr
  refine ⟨_, (pss_cons (ps_set (i := 2) scPow.nd rfl (Or.inl rfl) pe_int)
    (pss_cons (ps_set (i := 3) scPow.nd rfl (Or.inl rfl) pe_int)
    (pss_cons (ps_for PassesOwn.never rfl (pi_range1 (by rfl) m_range (pa_cons (pv 1) pa_nil)) (pg_name (i := 4) scPow.nd rfl (Or.inl rfl))
    (pss_cons (ps_set (i := 2) scPow.nd rfl (Or.inl rfl) (pe_op op_mulB (pv 2) (pe_ix ix_tup (pv 0) pe_int (fun _ _ => rfl))))
    (pss_one (ps_set (i := 3) scPow.nd rfl (Or.inl rfl) (pe_op op_mulB (pv 3) (pe_ix ix_tup (pv 0) pe_int (fun _ _ => rfl)))))))
    (pss_one (ps_ret (pe_tup (pa_cons (pv 2) (pa_cons (pv 3) pa_nil)))))))), ?_⟩
  refine ⟨_, rfl, _, rfl, by omega, by omega, for_rangeA (n := n.toNat) (fun i σ H1 => H1 = H ∧ ∃ v, σ = [some (.ref p), some (.int n), some (.int (a ^ i)), some (.int (b ^ i)), v])
    ⟨rfl, none, by rw [Int.pow_zero, Int.pow_zero]; rfl⟩ ?_ ?_⟩
  · rintro D' i σ H1 hi ⟨rfl, v, rfl⟩
    have e1 := pow9 (n := i) a0 a9 (by omega)
    have e2 := pow9 (n := i) b0 b9 (by omega)
    refine ⟨_, rfl, _, rfl, p, _, _, _, rfl, rfl, SqT.of hp, ix0 a b, _, _, rfl, rfl, ⟨⟨by omega, by omega⟩, ⟨by omega, by omega⟩⟩, ?_⟩
    refine ⟨_, rfl, _, rfl, p, _, _, _, rfl, rfl, SqT.of hp, ix1 a b, _, _, rfl, rfl, ⟨⟨by omega, by omega⟩, ⟨by omega, by omega⟩⟩, ?_⟩
    refine ⟨rfl, some (.int (0 + (i : Int))), ?_⟩
    rw [Int.pow_succ, Int.pow_succ]
    rfl
  · rintro σ H1 ⟨rfl, v, rfl⟩
    exact ⟨_, rfl, _, rfl, by show 2 ≤ sizeLine; decide, fun r hr' => k r hr'⟩
end
end Mine
namespace Mine
open PySem L2
section
variable {P : Program} {w : World} {K : PySem.W.Frag} {mg : Str → Option Value} {base : Heap}
theorem scShare : FnScope ["steepness", "k", "top", "bottom"] ["steepness", "k"] (defScope sShare) := ⟨rfl, rfl, rfl, by decide +kernel, rfl, by decide +kernel, by decide +kernel⟩
theorem ok_Share {f : Addr} {fd : FuncData} (F : Fun K "share_of" "share_of" sShare f fd)
    {f_Times : Addr} {d_Times : FuncData} (G_Times : FnOk P w K mg base CX0 3 f_Times d_Times ["one", "other"] spTimes) (b_Times : Binds K d_Times ["one", "other"] []) (k_Times : PySem.W.keepIn K (.ref f_Times) = true) (m_Times : mg "times" = some (.ref f_Times))
    {f_Pow : Addr} {d_Pow : FuncData} (G_Pow : FnOk P w K mg base CX0 1 f_Pow d_Pow ["one", "k"] spPow) (b_Pow : Binds K d_Pow ["one", "k"] []) (k_Pow : PySem.W.keepIn K (.ref f_Pow) = true) (m_Pow : mg "power" = some (.ref f_Pow))
    (m_abs : mg "abs" = none) :
    FnOk P w K mg base CX0 4 f fd ["steepness", "k"] (spFr (-21) 21 (fun p q k => shN p q k.natAbs) (fun p q k => shD p q k.natAbs)) := by
  refine F.ok scShare (fun vs H Q E h => ?_) (fun cdv A outer s H vs Q E hr h => ?_)
  · obtain ⟨st, p, q, n, rfl, _⟩ := h
    rfl
  obtain ⟨st, p, q, n, rfl, hst, hs, n0, n1, k⟩ := h
  have hu := hu_of hr
  have hr1 : Room 1 _ := hr.mono (by decide)
  have hr3 : Room 3 _ := hr.mono (by decide)
  refine ⟨_, (pss_cons (ps_set (i := 2) scShare.nd rfl (Or.inl rfl) (pe_ix ix_tup (pv 0) pe_int (fun _ _ => rfl)))
    (pss_cons (ps_set (i := 3) scShare.nd rfl (Or.inl rfl) (pe_ix ix_tup (pv 0) pe_int (fun _ _ => rfl)))
    (pss_one (ps_ret (pe_call G_Times hr3 (by rfl) m_Times k_Times b_Times .nil pass0 (pa_cons (pe_tup (pa_cons (pe_op op_sub (pv 3) (pv 2)) (pa_cons (pe_op op_add (pv 3) (pv 2)) pa_nil))) (pa_cons (pe_call G_Pow hr1 (by rfl) m_Pow k_Pow b_Pow .nil pass0 (pa_cons (pv 0) (pa_cons (pe_callB call_abs (by rfl) m_abs PyProof.Rows.boot_abs (pa_cons (pv 1) pa_nil)) pa_nil))) pa_nil))))))), ?_⟩
  obtain ⟨p1, pq, q9⟩ := id hs
  refine ⟨_, rfl, st, _, _, _, rfl, rfl, SqT.of hst, ix0 p q, _, rfl, st, _, _, _, rfl, rfl, SqT.of hst, ix1 p q, ?_⟩
  refine ⟨_, rfl, _, rfl, _, _, rfl, rfl, _, rfl, _, rfl, _, _, rfl, rfl, by show 2 ≤ sizeLine; decide, fun t ht => ?_⟩
  have g1 : Same H (upd H t (.tup [.int (q - p), .int (q + p)])) := same_new ht _
  have ht1 : TupAt (upd H t (.tup [.int (q - p), .int (q + p)])) t (q - p) (q + p) := upd_same
  generalize upd H t (.tup [.int (q - p), .int (q + p)]) = H1 at g1 ht1 ⊢
  have ea : (if n < 0 then -n else n) = (n.natAbs : Int) := by split <;> omega
  refine ⟨_, rfl, _, rfl, _, rfl, st, p, q, _, rfl, g1 _ _ hst, by omega, by omega, by omega, by omega, by rw [ea]; omega, by rw [ea]; omega, fun r hr' => ?_⟩
  rw [ea, Int.toNat_natCast]
  have g2 : Same H1 (upd H1 r (.tup [.int (p ^ n.natAbs), .int (q ^ n.natAbs)])) := same_new hr' _
  have hr2 : TupAt (upd H1 r (.tup [.int (p ^ n.natAbs), .int (q ^ n.natAbs)])) r (p ^ n.natAbs) (q ^ n.natAbs) := upd_same
  generalize upd H1 r (.tup [.int (p ^ n.natAbs), .int (q ^ n.natAbs)]) = H2 at g2 hr2 ⊢
  have e1 := pow9 (a := p) (n := n.natAbs) (by omega) (by omega) (by omega)
  have e2 := pow9 (a := q) (n := n.natAbs) (by omega) (by omega) (by omega)
  have e3 : 1 ≤ q ^ n.natAbs := by have : (0 : Int) < q ^ n.natAbs := Int.pow_pos (by omega); omega
  refine ⟨t, r, _, _, _, _, rfl, g2 _ _ ht1, hr2, ⟨by omega, by omega⟩, ⟨by omega, by omega⟩, ⟨e1.1, by omega⟩, ⟨e2.1, by omega⟩, by omega, e3, fun u hu' => ?_⟩
  exact k _ u (g1.trans (g2.trans (same_new hu' _))) upd_same
theorem scFar : FnScope ["steepness", "k"] ["steepness", "k"] (defScope sFar) := ⟨rfl, rfl, rfl, by decide +kernel, rfl, by decide +kernel, by decide +kernel⟩
theorem ok_Far {f : Addr} {fd : FuncData} (F : Fun K "far_tail" "far_tail" sFar f fd)
    {f_Times : Addr} {d_Times : FuncData} (G_Times : FnOk P w K mg base CX0 3 f_Times d_Times ["one", "other"] spTimes) (b_Times : Binds K d_Times ["one", "other"] []) (k_Times : PySem.W.keepIn K (.ref f_Times) = true) (m_Times : mg "times" = some (.ref f_Times))
    {f_Pow : Addr} {d_Pow : FuncData} (G_Pow : FnOk P w K mg base CX0 1 f_Pow d_Pow ["one", "k"] spPow) (b_Pow : Binds K d_Pow ["one", "k"] []) (k_Pow : PySem.W.keepIn K (.ref f_Pow) = true) (m_Pow : mg "power" = some (.ref f_Pow))
     :
    FnOk P w K mg base CX0 4 f fd ["steepness", "k"] (spFr 0 21 (fun p q k => tlN p q k.toNat) (fun p q k => shD p q k.toNat)) := by
  refine F.ok scFar (fun vs H Q E h => ?_) (fun cdv A outer s H vs Q E hr h => ?_)
  · obtain ⟨st, p, q, n, rfl, _⟩ := h
    rfl
  obtain ⟨st, p, q, n, rfl, hst, hs, n0, n1, k⟩ := h
  have hu := hu_of hr
  have hr1 : Room 1 _ := hr.mono (by decide)
  have hr3 : Room 3 _ := hr.mono (by decide)
  refine ⟨_, (pss_one (ps_ret (pe_call G_Times hr3 (by rfl) m_Times k_Times b_Times .nil pass0 (pa_cons (pe_tup (pa_cons (pe_ix ix_tup (pv 0) pe_int (fun _ _ => rfl)) (pa_cons (pe_op op_add (pe_ix ix_tup (pv 0) pe_int (fun _ _ => rfl)) (pe_ix ix_tup (pv 0) pe_int (fun _ _ => rfl))) pa_nil))) (pa_cons (pe_call G_Pow hr1 (by rfl) m_Pow k_Pow b_Pow .nil pass0 (pa_cons (pv 0) (pa_cons (pv 1) pa_nil))) pa_nil))))), ?_⟩
  obtain ⟨p1, pq, q9⟩ := id hs
  refine ⟨_, rfl, st, _, _, _, rfl, rfl, SqT.of hst, ix1 p q, _, rfl, st, _, _, _, rfl, rfl, SqT.of hst, ix1 p q, _, rfl, st, _, _, _, rfl, rfl, SqT.of hst, ix0 p q, _, _, rfl, rfl, by show 2 ≤ sizeLine; decide, fun t ht => ?_⟩
  have g1 : Same H (upd H t (.tup [.int q, .int (q + p)])) := same_new ht _
  have ht1 : TupAt (upd H t (.tup [.int q, .int (q + p)])) t q (q + p) := upd_same
  generalize upd H t (.tup [.int q, .int (q + p)]) = H1 at g1 ht1 ⊢
  refine ⟨_, rfl, _, rfl, st, p, q, n, rfl, g1 _ _ hst, by omega, by omega, by omega, by omega, n0, n1, fun r hr' => ?_⟩
  have g2 : Same H1 (upd H1 r (.tup [.int (p ^ n.toNat), .int (q ^ n.toNat)])) := same_new hr' _
  have hr2 : TupAt (upd H1 r (.tup [.int (p ^ n.toNat), .int (q ^ n.toNat)])) r (p ^ n.toNat) (q ^ n.toNat) := upd_same
  generalize upd H1 r (.tup [.int (p ^ n.toNat), .int (q ^ n.toNat)]) = H2 at g2 hr2 ⊢
  have e1 := pow9 (a := p) (n := n.toNat) (by omega) (by omega) (by omega)
  have e2 := pow9 (a := q) (n := n.toNat) (by omega) (by omega) (by omega)
  have e3 : 1 ≤ q ^ n.toNat := by have : (0 : Int) < q ^ n.toNat := Int.pow_pos (by omega); omega
  refine ⟨t, r, _, _, _, _, rfl, g2 _ _ ht1, hr2, ⟨by omega, by omega⟩, ⟨by omega, by omega⟩, ⟨e1.1, by omega⟩, ⟨e2.1, by omega⟩, by omega, e3, fun u hu' => ?_⟩
  exact k _ u (g1.trans (g2.trans (same_new hu' _))) upd_same
theorem scTail : FnScope ["steepness", "k"] ["steepness", "k"] (defScope sTail) := ⟨rfl, rfl, rfl, by decide +kernel, rfl, by decide +kernel, by decide +kernel⟩
theorem ok_Tail {f : Addr} {fd : FuncData} (F : Fun K "tail_of" "tail_of" sTail f fd)
    {f_Minus : Addr} {d_Minus : FuncData} (G_Minus : FnOk P w K mg base CX0 3 f_Minus d_Minus ["one", "other"] spMinus) (b_Minus : Binds K d_Minus ["one", "other"] []) (k_Minus : PySem.W.keepIn K (.ref f_Minus) = true) (m_Minus : mg "minus" = some (.ref f_Minus))
    {f_Far : Addr} {d_Far : FuncData} (G_Far : FnOk P w K mg base CX0 4 f_Far d_Far ["steepness", "k"] (spFr 0 21 (fun p q k => tlN p q k.toNat) (fun p q k => shD p q k.toNat))) (b_Far : Binds K d_Far ["steepness", "k"] []) (k_Far : PySem.W.keepIn K (.ref f_Far) = true) (m_Far : mg "far_tail" = some (.ref f_Far))
     :
    FnOk P w K mg base CX0 5 f fd ["steepness", "k"] (spFr (-20) 21 tN tD) := by
  refine F.ok scTail (fun vs H Q E h => ?_) (fun cdv A outer s H vs Q E hr h => ?_)
  · obtain ⟨st, p, q, n, rfl, _⟩ := h
    rfl
  obtain ⟨st, p, q, n, rfl, hst, hs, n0, n1, k⟩ := h
  have hu := hu_of hr
  have hr1 : Room 1 _ := hr.mono (by decide)
  have hr3 : Room 3 _ := hr.mono (by decide)
  have hr4 : Room 4 _ := hr.mono (by decide)
  refine ⟨_, (pss_cons (ps_if (pt_cmpR op_ge (pv 1) pe_int (nomark _)) (pss_one (ps_ret (pe_call G_Far hr4 (by rfl) m_Far k_Far b_Far .nil pass0 (pa_cons (pv 0) (pa_cons (pv 1) pa_nil))))) pss_nil)
    (pss_one (ps_ret (pe_call G_Minus hr3 (by rfl) m_Minus k_Minus b_Minus .nil pass0 (pa_cons (pe_tup (pa_cons pe_int (pa_cons pe_int pa_nil))) (pa_cons (pe_call G_Far hr4 (by rfl) m_Far k_Far b_Far .nil pass0 (pa_cons (pv 0) (pa_cons (pe_op op_sub pe_int (pv 1)) pa_nil))) pa_nil)))))), ?_⟩
  obtain ⟨p1, pq, q9⟩ := id hs
  refine ⟨_, rfl, _, _, rfl, rfl, _, rfl, ?_⟩
  refine ite2 (fun c => ?_) (fun c => ?_)
  · have c0 : 0 ≤ n := of_decide_eq_true c
    refine ⟨_, rfl, _, rfl, st, p, q, n, rfl, hst, hs, c0, n1, fun H' r s t => k H' r s ?_⟩
    unfold tN tD
    simp only [if_pos c0]
    exact t
  · have c0 : ¬ 0 ≤ n := fun z => c (decide_eq_true z)
    refine ⟨by show 2 ≤ sizeLine; decide, fun t ht => ?_⟩
    have g1 : Same H (upd H t (.tup [.int 1, .int 1])) := same_new ht _
    have ht1 : TupAt (upd H t (.tup [.int 1, .int 1])) t 1 1 := upd_same
    generalize upd H t (.tup [.int 1, .int 1]) = H1 at g1 ht1 ⊢
    refine ⟨_, rfl, _, rfl, _, _, rfl, rfl, st, p, q, 1 - n, rfl, g1 _ _ hst, hs, by omega, by omega, fun H2 r g2 hr2' => ?_⟩
    have hr2 : TupAt H2 r (low1 (tlN p q (1 - n).toNat) (shD p q (1 - n).toNat)) (low2 (tlN p q (1 - n).toNat) (shD p q (1 - n).toNat)) := hr2'
    have bd := sh_bd hs (n := (1 - n).toNat) (by omega)
    have sp := shD_pos p1 pq (1 - n).toNat
    have lb := low_bd bd.2.2 bd.2.1 sp
    have l1 := low2_pos (a := tlN p q (1 - n).toNat) sp
    have l2 := low_le (tl_le p1 pq (1 - n).toNat) sp
    refine ⟨t, r, 1, 1, _, _, rfl, g2 _ _ ht1, hr2, ⟨by decide, by decide⟩, ⟨by decide, by decide⟩, lb.1, lb.2, by decide, l1, by omega, fun u hu' => ?_⟩
    refine k _ u (g1.trans (g2.trans (same_new hu' _))) ?_
    have rt := low_ratio (a := tlN p q (1 - n).toNat) (b := shD p q (1 - n).toNat) bd.2.2.1 sp
    have e := low_eq (a := 1 * low2 (tlN p q (1 - n).toNat) (shD p q (1 - n).toNat) - low1 (tlN p q (1 - n).toNat) (shD p q (1 - n).toNat) * 1) (b := 1 * low2 (tlN p q (1 - n).toNat) (shD p q (1 - n).toNat))
      (c := shD p q (1 - n).toNat - tlN p q (1 - n).toNat) (d := shD p q (1 - n).toNat) (by omega) (by omega) (by have := tl_le p1 pq (1 - n).toNat; omega) sp (by
        generalize low2 (tlN p q (1 - n).toNat) (shD p q (1 - n).toNat) = y at rt ⊢
        generalize low1 (tlN p q (1 - n).toNat) (shD p q (1 - n).toNat) = x at rt ⊢
        grind)
    unfold tN tD
    simp only [if_neg c0]
    rw [← e.1, ← e.2]
    exact upd_same
theorem scFrom : FnScope ["mark", "number", "steepness", "low", "high"] ["mark", "number", "steepness", "low", "high"] (defScope sFrom) := ⟨rfl, rfl, rfl, by decide +kernel, rfl, by decide +kernel, by decide +kernel⟩
theorem ok_From {f : Addr} {fd : FuncData} (F : Fun K "share_from" "share_from" sFrom f fd)
    {f_Tail : Addr} {d_Tail : FuncData} (G_Tail : FnOk P w K mg base CX0 5 f_Tail d_Tail ["steepness", "k"] (spFr (-20) 21 tN tD)) (b_Tail : Binds K d_Tail ["steepness", "k"] []) (k_Tail : PySem.W.keepIn K (.ref f_Tail) = true) (m_Tail : mg "tail_of" = some (.ref f_Tail))
     :
    FnOk P w K mg base CX0 6 f fd ["mark", "number", "steepness", "low", "high"] spFrom := by
  refine F.ok scFrom (fun vs H Q E h => ?_) (fun cdv A outer s H vs Q E hr h => ?_)
  · obtain ⟨st, p, q, m, n, lo, h, rfl, _⟩ := h
    rfl
  obtain ⟨st, p, q, m, n, lo, h, rfl, hst, hs, b0, b1, k⟩ := h
  have hu := hu_of hr
  have hr1 : Room 1 _ := hr.mono (by decide)
  have hr5 : Room 5 _ := hr.mono (by decide)
  refine ⟨_, (pss_cons (ps_if (pt_cmpR op_le (pv 0) (pv 3) (nomark _)) (pss_one (ps_ret (pe_tup (pa_cons pe_int (pa_cons pe_int pa_nil))))) pss_nil)
    (pss_cons (ps_if (pt_cmpR op_gt (pv 0) (pv 4) (nomark _)) (pss_one (ps_ret (pe_tup (pa_cons pe_int (pa_cons pe_int pa_nil))))) pss_nil)
    (pss_one (ps_ret (pe_call G_Tail hr5 (by rfl) m_Tail k_Tail b_Tail .nil pass0 (pa_cons (pv 2) (pa_cons (pe_op op_sub (pv 0) (pv 1)) pa_nil))))))), ?_⟩
  refine ⟨_, rfl, _, rfl, _, _, rfl, rfl, _, rfl, ?_⟩
  by_cases c1 : m ≤ lo
  · refine iteP (by simp [c1]) ?_
    refine ⟨by show 2 ≤ sizeLine; decide, fun t ht => k _ t (same_new ht _) ?_⟩
    unfold yesF
    rw [if_pos c1]
    exact upd_same
  refine iteN (by simp; omega) ?_
  refine ⟨_, rfl, _, rfl, _, _, rfl, rfl, _, rfl, ?_⟩
  by_cases c2 : h < m
  · refine iteP (by simp [c2]) ?_
    refine ⟨by show 2 ≤ sizeLine; decide, fun t ht => k _ t (same_new ht _) ?_⟩
    unfold yesF
    rw [if_neg c1, if_pos c2]
    exact upd_same
  refine iteN (by simp; omega) ?_
  refine ⟨_, rfl, _, rfl, _, rfl, _, _, rfl, rfl, st, p, q, m - n, rfl, hst, hs, by omega, by omega, fun H' r s1 h1 => k H' r s1 ?_⟩
  unfold yesF
  rw [if_neg c1, if_neg c2]
  exact h1
end
end Mine
namespace Mine
open PySem L2
section
variable {P : Program} {w : World} {K : PySem.W.Frag} {mg : Str → Option Value} {base : Heap}
theorem nd_Merg1 : (["answer", "totals"] : List Str).Nodup := by decide +kernel
theorem nd_Merg2 : (["answer", "totals"] : List Str).Nodup := by decide +kernel
theorem nd_Merg3 : (["answer", "totals"] : List Str).Nodup := by decide +kernel
theorem scMerg : FnScope ["pairs", "totals", "pair", "answers"] ["pairs"] (defScope sMerg) := ⟨rfl, rfl, rfl, by decide +kernel, rfl, by decide +kernel, by decide +kernel⟩
theorem ok_Merg {f : Addr} {fd : FuncData} (F : Fun K "merged" "merged" sMerg f fd)
    {f_Add : Addr} {d_Add : FuncData} (G_Add : FnOk P w K mg base CX0 3 f_Add d_Add ["one", "other"] spAdd) (b_Add : Binds K d_Add ["one", "other"] []) (k_Add : PySem.W.keepIn K (.ref f_Add) = true) (m_Add : mg "added" = some (.ref f_Add))
    (m_sorted : mg "sorted" = none) (m_tuple : mg "tuple" = none) :
    FnOk P w K mg base CX0 4 f fd ["pairs"] spMerged := by
  refine F.ok scMerg (fun vs H Q E h => ?_) (fun cdv A outer s H vs Q E hr h => ?_)
  · obtain ⟨l, us, es, rfl, _⟩ := h
    rfl
  obtain ⟨l, us, es, rfl, hl, tw, hlen, sf, k⟩ := h
  have hu := hu_of hr
  have hr1 : Room 1 _ := hr.mono (by decide)
  have hr3 : Room 3 _ := hr.mono (by decide)
  refine ⟨_, (pss_cons (ps_set (i := 1) scMerg.nd rfl (Or.inr rfl) pe_dnewK)
    (pss_cons (ps_for PassesOwn.never rfl (pi_list (pv 0)) (pg_name (i := 2) scMerg.nd rfl (Or.inl rfl))
    (pss_one (ps_dput hu (pv 1) (pe_ix ix_tup (pv 2) pe_int (fun _ _ => rfl)) (pe_call G_Add hr3 (by rfl) m_Add k_Add b_Add .nil pass0 (pa_cons (pe_dget2 hu (pv 1) (pe_ix ix_tup (pv 2) pe_int (fun _ _ => rfl)) (pe_tup (pa_cons pe_int (pa_cons pe_int pa_nil))) ⟨rfl, rfl, rfl, rfl⟩) (pa_cons (pe_ix ix_tup (pv 2) pe_int (fun _ _ => rfl)) pa_nil))) rfl)))
    (pss_cons (ps_set (i := 3) scMerg.nd rfl (Or.inl rfl) (pe_callB call_sortI (by rfl) m_sorted PyProof.Rows.boot_sorted (pa_cons (pe_comp ["answer", "totals"] [none, some 1] (pi_dict (pv 1)) (fun _ _ _ _ => (pg_name (i := 0) (nd_Merg1) rfl (Or.inl rfl))) (fun _ _ _ _ => (pf_one (pt_cmpR (neDK K hr1) (pe_dget hu (pv 1) (pv 0) (fun _ _ => rfl)) (pe_tup (pa_cons pe_int (pa_cons pe_int pa_nil))) (nomark _)))) (fun _ _ _ _ => (pv 0))) pa_nil)))
    (pss_one (ps_ret (pe_callTy call_tuple_of (by rfl) m_tuple PyProof.Rows.boot_tuple (pa_cons (pe_comp ["answer", "totals"] [none, some 1] (pi_list (pv 3)) (fun _ _ _ _ => (pg_name (i := 0) (nd_Merg3) rfl (Or.inl rfl))) (fun _ _ _ _ => pf_nil) (fun _ _ _ _ => (pe_tup (pa_cons (pv 0) (pa_cons (pe_dget hu (pv 1) (pv 0) (fun _ _ => rfl)) pa_nil))))) pa_nil))))))), ?_⟩
  refine fun d hd => ?_
  refine ⟨_, rfl, l, rfl, ⟨_, SqL.of (same_new hd _ _ _ hl)⟩, for_listA (K := K) (a := l) (xs := us) (fun i σ H1 => ∃ kvs v2, σ = [some (.ref l), some (.ref d), v2, none] ∧ Same H H1 ∧ H1 d = some (.dK kvs) ∧ KvT H1 kvs ((es.take i).foldl stepT fun _ => none) ∧ kvs.length ≤ i)
    ⟨[], _, rfl, same_new hd _, upd_same, KvT.nil, Nat.le_refl _⟩ (by rintro i σ H1 _ ⟨_, _, _, e, _⟩; exact SqL.of (e _ _ hl)) ?_ ?_⟩
  · rintro D' i v σ H1 hv ⟨kvs, v2, rfl, s1, hd1, kt, hkl⟩
    obtain ⟨e, he, p, q, rfl, hp, hq⟩ := tw.at hv
    have hi : i < es.length := (List.getElem?_eq_some_iff.mp he).1
    have sa := safe_at sf he
    rw [fold_snoc he]
    generalize (es.take i).foldl stepT (fun _ => none) = T at kt sa ⊢
    refine ⟨_, rfl, d, rfl, .inl ⟨kvs, .inl hd1⟩, _, rfl, p, _, _, _, rfl, rfl, SqT.of (s1 _ _ hp), rfl, ?_⟩
    refine ⟨by show 2 ≤ sizeLine; decide, fun t0 ht0 => ⟨_, DGet.k (k := Sum.inl e.1) (same_new ht0 _ _ _ hd1), ?_⟩⟩
    have s2 := s1.trans (same_new ht0 (.tup [.int 0, .int 1]))
    have hd2 := same_new ht0 (.tup [.int 0, .int 1]) _ _ hd1
    have kt2 := kt.ts (.of (same_new ht0 (.tup [.int 0, .int 1])))
    have h01 : TupAt (upd H1 t0 (.tup [.int 0, .int 1])) t0 0 1 := upd_same
    generalize upd H1 t0 (.tup [.int 0, .int 1]) = H2 at s2 hd2 kt2 h01 ⊢
    obtain ⟨g, hg, tg⟩ : ∃ g, (valV kvs (Sum.inl e.1)).getD (.ref t0) = .ref g ∧ TupAt H2 g ((T e.1).getD (0, 1)).1 ((T e.1).getD (0, 1)).2 := by
      cases c : T e.1 with
      | none => exact ⟨t0, by rw [kt2.no _ c]; rfl, h01⟩
      | some u =>
        obtain ⟨q', e1, e2⟩ := kt2.val _ u c
        exact ⟨q', by rw [e1]; rfl, e2⟩
    refine ⟨_, rfl, p, _, _, _, rfl, rfl, SqT.of (s2 _ _ hp), rfl, ?_⟩
    refine ⟨g, q, _, e.2, by rw [hg]; rfl, tg, s2 _ _ hq, sa.1, sa.2, fun r hr' => ?_⟩
    have s3 := s2.trans (same_new hr' (.tup [.int (addF ((T e.1).getD (0, 1)) e.2).1, .int (addF ((T e.1).getD (0, 1)) e.2).2]))
    have hd3 := same_new hr' (.tup [.int (addF ((T e.1).getD (0, 1)) e.2).1, .int (addF ((T e.1).getD (0, 1)) e.2).2]) _ _ hd2
    have kt3 := kt2.ts (.of (same_new hr' (.tup [.int (addF ((T e.1).getD (0, 1)) e.2).1, .int (addF ((T e.1).getD (0, 1)) e.2).2])))
    have hr3 : TupAt (upd H2 r (.tup [.int (addF ((T e.1).getD (0, 1)) e.2).1, .int (addF ((T e.1).getD (0, 1)) e.2).2])) r (addF ((T e.1).getD (0, 1)) e.2).1 (addF ((T e.1).getD (0, 1)) e.2).2 := upd_same
    generalize upd H2 r (.tup [.int (addF ((T e.1).getD (0, 1)) e.2).1, .int (addF ((T e.1).getD (0, 1)) e.2).2]) = H3 at s3 hd3 kt3 hr3 ⊢
    refine ⟨_, rfl, _, rfl, p, _, _, _, rfl, rfl, SqT.of (s3 _ _ hp), rfl, d, _, rfl, .inl ⟨kvs, Sum.inl e.1, hd3, rfl, small1000 (by omega), rfl⟩, ?_⟩
    have tsd : TS H3 (upd H3 d (.dK (putK kvs (Sum.inl e.1) (.ref r)))) := fun b o q => by
      rw [upd_ne (fun z => by rw [z, hd3] at q; cases q)]
      exact q
    exact ⟨_, _, rfl, same_any s3 hd, upd_same, (kt3.put hr3).ts tsd, Nat.le_trans putK_len (by omega)⟩
  · rintro σ H1 ⟨kvs, v2, rfl, s1, hd1, kt, hkl⟩
    have ul := tw.length
    rw [ul, List.take_length] at kt
    have eT : es.foldl stepT (fun _ => none) = totF es := rfl
    rw [eT] at kt
    generalize hT : totF es = T at kt
    have kk := k
    rw [hT] at kk
    refine ⟨_, rfl, d, kvs, rfl, hd1, fun o => ?_⟩
    have s2 : Same H (upd H1 d (.frz o (.dK kvs))) := same_any s1 hd
    have hd2 : upd H1 d (.frz o (.dK kvs)) d = some (.frz o (.dK kvs)) := upd_same
    have tsd : TS H1 (upd H1 d (.frz o (.dK kvs))) := fun b u q => by
      rw [upd_ne (fun z => by rw [z, hd1] at q; cases q)]
      exact q
    have kt2 := kt.ts tsd
    generalize upd H1 d (.frz o (.dK kvs)) = H2 at s2 hd2 kt2 ⊢
    refine comp_dict (o := o) (kvs := kvs) (fun i zs σ H3 => Same H2 H3 ∧ (∃ v, σ = [v, some (.ref d)]) ∧ zs = (liveK (kvs.take i) T).map V.int) (small1000 (by omega)) ⟨Same.refl _, ⟨_, rfl⟩, rfl⟩
      (fun i zs σ H3 ⟨_, _, e⟩ => by
        rw [e, List.length_map]
        exact Nat.le_trans live_len (by rw [List.length_take]; omega)) (by rintro i zs σ H3 _ ⟨e, _⟩; exact e _ _ hd2) ?_ ?_
    · rintro i ky v zs σ H3 hv ⟨s3, ⟨v', rfl⟩, rfl⟩
      obtain ⟨ka, hka⟩ := kt2.inl _ (List.mem_of_getElem? hv)
      have hka : ky = Sum.inl ka := hka
      subst hka
      have hva := val_at kt2.nd hv
      obtain ⟨u, hu'⟩ : ∃ u, T ka = some u := by
        cases c : T ka with
        | none => rw [kt2.no _ c] at hva; cases hva
        | some u => exact ⟨u, rfl⟩
      obtain ⟨q, e1, e2⟩ := kt2.val _ u hu'
      refine ⟨_, rfl, _, rfl, d, .ref q, rfl, by rw [← e1]; exact DGet.f (k := Sum.inl ka) (s3 _ _ hd2), ?_⟩
      refine ⟨by show 2 ≤ sizeLine; decide, fun t0 ht0 => ?_⟩
      refine ⟨.tuple [.int u.1, .int u.2], .tuple [.int 0, .int 1], ⟨q, _, rfl, SqT.of (same_new ht0 _ _ _ (s3 _ _ e2)), _, _, rfl, rfl, _, _, rfl, rfl, rfl⟩, ⟨t0, _, rfl, SqT.of upd_same, _, _, rfl, rfl, _, _, rfl, rfl, rfl⟩, rfl, rfl, rfl, _, rfl, ?_⟩
      rw [same_pair]
      rw [live_snoc hv, List.map_append]
      have s4 := s3.trans (same_new ht0 (.tup [.int 0, .int 1]))
      by_cases c : u = (0, 1)
      · refine iteN ?_ ⟨s4, ⟨_, rfl⟩, ?_⟩
        · simp [c]
        · rw [if_pos (by rw [hu', c])]
          simp
      · refine iteP ?_ ⟨_, rfl, s4, ⟨_, rfl⟩, ?_⟩
        · simp [c]
        · rw [if_neg (by rw [hu']; exact fun z => c (Option.some.inj z))]
          rfl
    · rintro zs σ H3 ⟨s3, _, rfl⟩ l3 hl3
      rw [List.take_length]
      have lk := live_len (kvs := kvs) (T := T)
      refine ⟨l3, liveK kvs T, rfl, SqL.of upd_same, by omega, fun ks pm pw l4 hl4 => ?_⟩
      have s4 := s3.trans ((same_new hl3 (.lst ((liveK kvs T).map V.int))).trans (same_new hl4 (.lst (ks.map V.int))))
      have hl5 : upd (upd H3 l3 (.lst ((liveK kvs T).map V.int))) l4 (.lst (ks.map V.int)) l4 = some (.lst (ks.map V.int)) := upd_same
      generalize upd (upd H3 l3 (.lst ((liveK kvs T).map V.int))) l4 (.lst (ks.map V.int)) = H4 at s4 hl5 ⊢
      have kl : ks.length ≤ 60 := by rw [pm.length_eq]; omega
      refine ⟨_, rfl, l4, rfl, ⟨_, SqL.of hl5⟩, comp_list (K := K) (a := l4) (xs := ks.map V.int) (fun i zs σ H5 => Same H4 H5 ∧ (∃ v, σ = [v, some (.ref d)]) ∧ Two (Ent H5) zs (tabOf T (ks.take i)))
        (small1000 (by rw [List.length_map]; omega)) ⟨Same.refl _, ⟨_, rfl⟩, trivial⟩ (fun i zs σ H5 ⟨_, _, e⟩ => by
          rw [e.length]
          unfold tabOf
          rw [List.length_map, List.length_take]
          omega) (by rintro i zs σ H5 _ ⟨e, _⟩; exact SqL.of (e _ _ hl5)) ?_ ?_⟩
      · rintro i y zs σ H5 hy ⟨s5, ⟨v, rfl⟩, tw5⟩
        obtain ⟨ka, rfl, hka⟩ := ints_at hy
        have mem : ka ∈ liveK kvs T := pm.mem_iff.mp (List.mem_of_getElem? hka)
        obtain ⟨u, hu', _⟩ := (live_mem kt2).mp mem
        obtain ⟨q, e1, e2⟩ := kt2.val _ u hu'
        refine ⟨_, rfl, _, rfl, _, rfl, d, .ref q, rfl, by rw [← e1]; exact DGet.f (k := Sum.inl ka) (s5 _ _ (s4 _ _ hd2)), ?_⟩
        refine ⟨by show 2 ≤ sizeLine; decide, fun t ht => ⟨s5.trans (same_new ht _), ⟨_, rfl⟩, ?_⟩⟩
        rw [tab_snoc hka]
        refine Two.append (tab_ts (.of (same_new ht _)) tw5) ⟨⟨t, q, rfl, upd_same, ?_⟩, trivial⟩
        rw [hu']
        exact same_new ht _ _ _ (s5 _ _ (s4 _ _ e2))
      · rintro zs σ H5 ⟨s5, _, tw5⟩ l6 hl6
        rw [List.length_map, List.take_length] at tw5
        refine ⟨l6, _, rfl, .inl ⟨SqL.of upd_same, fun u hu' => ?_⟩⟩
        have s6 := (same_new hl6 (.lst zs)).trans (same_new hu' (.tup zs))
        refine kk _ u zs ks (s2.trans (s4.trans (s5.trans s6))) upd_same (strict_of pw (pm.nodup_iff.mpr (live_nodup kt2.nd))) (fun ka => ?_) (tab_ts (.of s6) tw5)
        rw [pm.mem_iff]
        exact live_mem kt2
end
end Mine
namespace Mine
open PySem L2
section
variable {P : Program} {w : World} {K : PySem.W.Frag} {mg : Str → Option Value} {base : Heap}
theorem scCut : FnScope ["number", "low", "high"] ["number", "low", "high"] (defScope sCut) := ⟨rfl, rfl, rfl, by decide +kernel, rfl, by decide +kernel, by decide +kernel⟩
theorem ok_Cut {f : Addr} {fd : FuncData} (F : Fun K "cut" "cut" sCut f fd)
    (m_min : mg "min" = none) (m_max : mg "max" = none) :
    FnOk P w K mg base CX0 1 f fd ["number", "low", "high"] spCut := by
  refine F.ok scCut (fun vs H Q E h => ?_) (fun cdv A outer s H vs Q E hr h => ?_)
  · obtain ⟨n, lo, hi, rfl, _⟩ := h
    rfl
  obtain ⟨n, lo, hi, rfl, k⟩ := h
  have hu := hu_of hr
  refine ⟨_, (pss_one (ps_ret (pe_callB (call_min2 rfl) (by rfl) m_min PyProof.Rows.boot_min (pa_cons (pe_callB (call_max2 rfl) (by rfl) m_max PyProof.Rows.boot_max (pa_cons (pv 0) (pa_cons (pv 1) pa_nil))) (pa_cons (pv 2) pa_nil))))), ?_⟩
  exact ⟨_, rfl, _, rfl, _, _, rfl, _, rfl, _, _, rfl, k⟩
theorem scOne : FnScope ["sort"] ["sort"] (defScope sOne) := ⟨rfl, rfl, rfl, by decide +kernel, rfl, by decide +kernel, by decide +kernel⟩
theorem ok_One {f : Addr} {fd : FuncData} (F : Fun K "has_one_sum" "has_one_sum" sOne f fd)
     :
    FnOk P w K mg base CX0 1 f fd ["sort"] spOneF := by
  refine F.ok scOne (fun vs H Q E h => ?_) (fun cdv A outer s H vs Q E hr h => ?_)
  · obtain ⟨rfl, _⟩ := h
    rfl
  obtain ⟨rfl, k⟩ := h
  have hu := hu_of hr
  refine ⟨_, (pss_one (ps_ret (pe_cmpR op_in_seq (pv 0) (pe_tup (pa_cons pe_str (pa_cons pe_str pa_nil))) rfl))), ?_⟩
  refine ⟨_, rfl, by show 2 ≤ sizeLine; decide, fun t ht => ⟨t, [.str "ladder", .str "flat"], rfl, .inr (SqT.of upd_same), rfl, rfl, ?_⟩⟩
  have e : inV (.str "first") [.str "ladder", .str "flat"] = false := by decide +kernel
  show Q (.bl (inV (.str "first") [.str "ladder", .str "flat"])) _
  rw [e]
  exact k _ (same_new ht _)
theorem scPlace : FnScope ["sort"] ["sort"] (defScope sPlace) := ⟨rfl, rfl, rfl, by decide +kernel, rfl, by decide +kernel, by decide +kernel⟩
theorem ok_Place {f : Addr} {fd : FuncData} (F : Fun K "place_of_sums" "place_of_sums" sPlace f fd)
     :
    FnOk P w K mg base CX0 1 f fd ["sort"] spPlaceF := by
  refine F.ok scPlace (fun vs H Q E h => ?_) (fun cdv A outer s H vs Q E hr h => ?_)
  · obtain ⟨rfl, _⟩ := h
    rfl
  obtain ⟨rfl, k⟩ := h
  have hu := hu_of hr
  refine ⟨_, (pss_one (ps_ret (pe_ifExp (pt_cmpR op_eq (pv 0) pe_str (nomark _)) pe_int pe_int))), ?_⟩
  refine ⟨_, rfl, rfl, _, rfl, iteTb (strT _) k⟩
theorem scSums : FnScope ["row", "asked"] ["row"] (defScope sSums) := ⟨rfl, rfl, rfl, by decide +kernel, rfl, by decide +kernel, by decide +kernel⟩
theorem ok_Sums {f : Addr} {fd : FuncData} (F : Fun K "sums_of" "sums_of" sSums f fd)
    {f_Place : Addr} {d_Place : FuncData} (G_Place : FnOk P w K mg base CX0 1 f_Place d_Place ["sort"] spPlaceF) (b_Place : Binds K d_Place ["sort"] []) (k_Place : PySem.W.keepIn K (.ref f_Place) = true) (m_Place : mg "place_of_sums" = some (.ref f_Place))
    {f_One : Addr} {d_One : FuncData} (G_One : FnOk P w K mg base CX0 1 f_One d_One ["sort"] spOneF) (b_One : Binds K d_One ["sort"] []) (k_One : PySem.W.keepIn K (.ref f_One) = true) (m_One : mg "has_one_sum" = some (.ref f_One))
     :
    FnOk P w K mg base CX0 2 f fd ["row"] spSumsF := by
  refine F.ok scSums (fun vs H Q E h => ?_) (fun cdv A outer s H vs Q E hr h => ?_)
  · obtain ⟨r, x, mk, sa, sb, sm, lo, hi, rfl, _⟩ := h
    rfl
  obtain ⟨r, x, mk, sa, sb, sm, lo, hi, rfl, hw, k⟩ := h
  have hu := hu_of hr
  have hr1 : Room 1 _ := hr.mono (by decide)
  refine ⟨_, (pss_cons (ps_set (i := 1) scSums.nd rfl (Or.inl rfl) (pe_ix ix_tup (pv 0) (pe_call G_Place hr1 (by rfl) m_Place k_Place b_Place .nil pass0 (pa_cons (pe_ix ix_tup (pv 0) pe_int (fun _ _ => rfl)) pa_nil)) (fun _ _ => rfl)))
    (pss_one (ps_ret (pe_ifExp (pt_val (pe_call G_One hr1 (by rfl) m_One k_One b_One .nil pass0 (pa_cons (pe_ix ix_tup (pv 0) pe_int (fun _ _ => rfl)) pa_nil))) (pe_tup (pa_cons (pv 1) pa_nil)) (pv 1))))), ?_⟩
  refine ⟨_, rfl, _, rfl, r, _, _, _, rfl, rfl, SqT.of hw, rfl, rfl, r, _, _, _, rfl, rfl, SqT.of hw, rfl, ?_⟩
  refine ⟨_, rfl, r, _, _, _, rfl, rfl, SqT.of hw, rfl, rfl, fun H1 s1 => ⟨_, rfl, ?_⟩⟩
  exact ⟨_, rfl, k _ s1⟩
theorem scRng : FnScope ["row"] ["row"] (defScope sRng) := ⟨rfl, rfl, rfl, by decide +kernel, rfl, by decide +kernel, by decide +kernel⟩
theorem ok_Rng {f : Addr} {fd : FuncData} (F : Fun K "range_of_sums" "range_of_sums" sRng f fd)
     :
    FnOk P w K mg base CX0 1 f fd ["row"] spRng := by
  refine F.ok scRng (fun vs H Q E h => ?_) (fun cdv A outer s H vs Q E hr h => ?_)
  · obtain ⟨r, x, mk, sa, sb, sm, lo, hi, rfl, _⟩ := h
    rfl
  obtain ⟨r, x, mk, sa, sb, sm, lo, hi, rfl, hw, k⟩ := h
  have hu := hu_of hr
  refine ⟨_, (pss_one (ps_ret (pe_tup (pa_cons (pe_ix ix_tup (pv 0) (pe_un un_neg pe_int) (fun _ _ => rfl)) (pa_cons (pe_ifExp (pt_cmpR op_eq (pe_ix ix_tup (pv 0) pe_int (fun _ _ => rfl)) pe_str (nomark _)) (pe_op op_sub (pe_ix ix_tup (pv 0) (pe_un un_neg pe_int) (fun _ _ => rfl)) pe_int) (pe_ix ix_tup (pv 0) (pe_un un_neg pe_int) (fun _ _ => rfl))) pa_nil))))), ?_⟩
  refine ⟨_, rfl, _, rfl, r, _, _, _, rfl, rfl, SqT.of hw, rfl, ?_⟩
  refine ⟨_, rfl, r, _, _, _, rfl, rfl, SqT.of hw, rfl, rfl, _, rfl, iteTb (strT _) ?_⟩
  refine ⟨_, rfl, _, rfl, r, _, _, _, rfl, rfl, SqT.of hw, rfl, _, _, rfl, rfl, by show 2 ≤ sizeLine; decide, fun t ht => k _ t (same_new ht _) upd_same⟩
theorem nd_Up1 : (["weight", "count"] : List Str).Nodup := by decide +kernel
theorem scUp : FnScope ["weights", "crowd"] ["weights", "crowd"] (defScope sUp) := ⟨rfl, rfl, rfl, by decide +kernel, rfl, by decide +kernel, by decide +kernel⟩
theorem ok_Up {f : Addr} {fd : FuncData} (F : Fun K "added_up" "added_up" sUp f fd)
    (m_sum : mg "sum" = none) (m_zip : mg "zip" = none) :
    FnOk P w K mg base CX0 1 f fd ["weights", "crowd"] spUp := by
  refine F.ok scUp (fun vs H Q E h => ?_) (fun cdv A outer s H vs Q E hr h => ?_)
  · obtain ⟨a, b, ws, cs, rfl, _⟩ := h
    rfl
  obtain ⟨a, b, ws, cs, rfl, ha, hb, W, k⟩ := h
  have hu := hu_of hr
  refine ⟨_, (pss_one (ps_ret (pe_callB call_sum (by rfl) m_sum PyProof.Rows.boot_sum (pa_cons (pe_comp ["weight", "count"] [none, none] (pi_zip (by rfl) m_zip (pa_cons (pv 0) (pa_cons (pv 1) pa_nil))) (fun _ _ _ _ => (pgtK K (n := 2) rfl (pgs_cons (pg_name (i := 0) (nd_Up1) rfl (Or.inl rfl)) (pgs_cons (pg_name (i := 1) (nd_Up1) rfl (Or.inl rfl)) pgs_nil)))) (fun _ _ _ _ => pf_nil) (fun _ _ _ _ => (pe_op op_mul (pv 0) (pv 1)))) pa_nil)))), ?_⟩
  obtain ⟨hl, h3, hw⟩ := W
  refine ⟨_, rfl, _, rfl, ?_⟩
  refine ⟨a, b, rfl, ⟨_, SqT.of ha⟩, ⟨_, SqT.of hb⟩, comp_zip (xs := ws.map V.int) (ys := cs.map V.int) (fun i zs σ H2 => Same H H2 ∧ (∃ v1 v2, σ = [v1, v2]) ∧ zs = ((List.zipWith (· * ·) ws cs).take i).map V.int)
    (by rw [List.length_map]; exact small1000 (by omega)) (by rw [List.length_map, List.length_map]; omega) ⟨Same.refl _, ⟨_, _, rfl⟩, rfl⟩ (by rintro i zs σ H2 ⟨_, _, e⟩; rw [e, List.length_map, List.length_take]; omega) (by rintro i zs σ H2 _ ⟨e, _⟩; exact ⟨SqT.of (e _ _ ha), SqT.of (e _ _ hb)⟩) ?_ ?_⟩
  · rintro i x y zs σ H2 t hx hy ⟨s2, ⟨v1, v2, rfl⟩, rfl⟩ ht
    obtain ⟨x', rfl, hx'⟩ := ints_at hx
    obtain ⟨y', rfl, hy'⟩ := ints_at hy
    have hb := hw x' (List.mem_of_getElem? hx')
    refine ⟨t, _, rfl, SqT.of upd_same, rfl, _, _, rfl, _, _, rfl, rfl, ?_⟩
    refine ⟨_, rfl, _, rfl, _, _, rfl, rfl, .inl ⟨by omega, by omega⟩, s2.trans (same_new ht _), ⟨_, _, rfl⟩, ?_⟩
    have hz : (List.zipWith (· * ·) ws cs)[i]? = some (x' * y') := by rw [List.getElem?_zipWith, hx', hy']
    rw [take_snoc hz, List.map_append]
    rfl

  · rintro zs σ H2 ⟨s2, _, rfl⟩ l2 hl2
    have e : (List.zipWith (· * ·) ws cs).take (ws.map V.int).length = List.zipWith (· * ·) ws cs := by
      rw [List.take_of_length_le]
      rw [List.length_zipWith, List.length_map]
      omega
    rw [e]
    exact ⟨l2, List.zipWith (· * ·) ws cs, rfl, SqL.of upd_same, k _ (s2.trans (same_new hl2 _))⟩
theorem nd_Num1 : (["weights", "crowd", "bounds"] : List Str).Nodup := by decide +kernel
theorem nd_Num2 : (["weights", "crowd", "bounds"] : List Str).Nodup := by decide +kernel
theorem scNum : FnScope ["row", "crowd", "bounds"] ["row", "crowd"] (defScope sNum) := ⟨rfl, rfl, rfl, by decide +kernel, rfl, by decide +kernel, by decide +kernel⟩
theorem ok_Num {f : Addr} {fd : FuncData} (F : Fun K "number_of" "number_of" sNum f fd)
    {f_Rng : Addr} {d_Rng : FuncData} (G_Rng : FnOk P w K mg base CX0 1 f_Rng d_Rng ["row"] spRng) (b_Rng : Binds K d_Rng ["row"] []) (k_Rng : PySem.W.keepIn K (.ref f_Rng) = true) (m_Rng : mg "range_of_sums" = some (.ref f_Rng))
    {f_Cut : Addr} {d_Cut : FuncData} (G_Cut : FnOk P w K mg base CX0 1 f_Cut d_Cut ["number", "low", "high"] spCut) (b_Cut : Binds K d_Cut ["number", "low", "high"] []) (k_Cut : PySem.W.keepIn K (.ref f_Cut) = true) (m_Cut : mg "cut" = some (.ref f_Cut))
    {f_Up : Addr} {d_Up : FuncData} (G_Up : FnOk P w K mg base CX0 1 f_Up d_Up ["weights", "crowd"] spUp) (b_Up : Binds K d_Up ["weights", "crowd"] []) (k_Up : PySem.W.keepIn K (.ref f_Up) = true) (m_Up : mg "added_up" = some (.ref f_Up))
    {f_Sums : Addr} {d_Sums : FuncData} (G_Sums : FnOk P w K mg base CX0 2 f_Sums d_Sums ["row"] spSumsF) (b_Sums : Binds K d_Sums ["row"] []) (k_Sums : PySem.W.keepIn K (.ref f_Sums) = true) (m_Sums : mg "sums_of" = some (.ref f_Sums))
    (m_tuple : mg "tuple" = none) :
    FnOk P w K mg base CX0 3 f fd ["row", "crowd"] spNumF := by
  refine F.ok scNum (fun vs H Q E h => ?_) (fun cdv A outer s H vs Q E hr h => ?_)
  · obtain ⟨r, x, mk, sa, sb, sm, lo, hi, wss, c, cs, rfl, _⟩ := h
    rfl
  obtain ⟨r, x, mk, sa, sb, sm, lo, hi, wss, c, cs, rfl, hw, so, hcs, few, k⟩ := h
  have hu := hu_of hr
  have hr1 : Room 1 _ := hr.mono (by decide)
  have hr2 : Room 2 _ := hr.mono (by decide)
  refine ⟨_, (pss_cons (ps_set (i := 2) scNum.nd rfl (Or.inr rfl) (pe_call G_Rng hr1 (by rfl) m_Rng k_Rng b_Rng .nil pass0 (pa_cons (pv 0) pa_nil)))
    (pss_one (ps_ret (pe_callTy call_tuple_of (by rfl) m_tuple PyProof.Rows.boot_tuple (pa_cons (pe_comp ["weights", "crowd", "bounds"] [none, some 1, some 2] (pi_tup (pe_call G_Sums hr2 (by rfl) m_Sums k_Sums b_Sums .nil pass0 (pa_cons (pv 0) pa_nil))) (fun _ _ _ _ => (pg_name (i := 0) (nd_Num2) rfl (Or.inl rfl))) (fun _ _ _ _ => pf_nil) (fun _ _ _ _ => (pe_call G_Cut hr1 (by rfl) m_Cut k_Cut b_Cut .nil pass0 (pa_cons (pe_call G_Up hr1 (by rfl) m_Up k_Up b_Up .nil pass0 (pa_cons (pv 0) (pa_cons (pv 1) pa_nil))) (pa_cons (pe_ix (ixtK K) (pv 2) pe_int (fun _ _ => rfl)) (pa_cons (pe_ix (ixtK K) (pv 2) pe_int (fun _ _ => rfl)) pa_nil)))))) pa_nil))))), ?_⟩
  refine ⟨_, rfl, r, x, mk, sa, sb, sm, lo, hi, rfl, hw, fun H0 b s0 hb => ?_⟩
  refine ⟨_, rfl, r, x, mk, sa, sb, sm, lo, hi, rfl, s0 _ _ hw, fun H1 s1' => ?_⟩
  have hb1 := s1' _ _ hb
  have s1 := s0.trans s1'
  obtain ⟨us, ht, tw⟩ := so.ts (.of s1)
  have ul := tw.length
  have fa := few.a
  have fb := few.b
  have nl : (numsI wss cs lo (hi - 1)).length = wss.length := by unfold numsI; rw [List.length_map]
  refine ⟨sm, rfl, ⟨_, SqT.of ht⟩, comp_tup (xs := us) (fun i zs σ H2 => Same H1 H2 ∧ (∃ v, σ = [v, some (.ref c), some (.ref b)]) ∧ zs = ((numsI wss cs lo (hi - 1)).take i).map V.int)
    (small1000 (by omega)) ⟨Same.refl _, ⟨_, rfl⟩, rfl⟩ (by rintro i zs σ H2 ⟨_, _, e⟩; rw [e, List.length_map, List.length_take]; omega) (by rintro i zs σ H2 _ ⟨e, _⟩; exact SqT.of (e _ _ ht)) ?_ ?_⟩
  · rintro i y zs σ H2 hy ⟨s2, ⟨v, rfl⟩, rfl⟩
    obtain ⟨ws, hws, a, rfl, hia⟩ := tw.at hy
    refine ⟨_, rfl, _, rfl, a, c, ws, cs, rfl, s2 _ _ hia, (s1.trans s2) _ _ hcs, few.w ws (List.mem_of_getElem? hws), fun H3 s3 => ?_⟩
    have hb3 := s3 _ _ (s2 _ _ hb1)
    refine ⟨_, rfl, b, _, _, _, rfl, rfl, SqT.of hb3, rfl, _, rfl, b, _, _, _, rfl, rfl, SqT.of hb3, rfl, _, _, _, rfl, s2.trans s3, ⟨_, rfl⟩, ?_⟩
    rw [take_snoc (nums_at hws), List.map_append]
    rfl
  · rintro zs σ H2 ⟨s2, _, rfl⟩ l2 hl2
    have e : (numsI wss cs lo (hi - 1)).take us.length = numsI wss cs lo (hi - 1) := by rw [ul, ← nl, List.take_length]
    rw [e]
    exact ⟨l2, _, rfl, .inl ⟨SqL.of upd_same, fun u hu' => k _ u (s1.trans (s2.trans ((same_new hl2 _).trans (same_new hu' _)))) upd_same⟩⟩
end
end Mine
namespace Mine
open PySem L2
section
variable {P : Program} {w : World} {K : PySem.W.Frag} {mg : Str → Option Value} {base : Heap}
theorem nd_Lad1 : (["rung", "steepness", "number"] : List Str).Nodup := by decide +kernel
theorem scLad : FnScope ["number", "steepness", "low", "high", "between", "lowest_rung", "highest_rung"] ["number", "steepness", "low", "high"] (defScope sLad) := ⟨rfl, rfl, rfl, by decide +kernel, rfl, by decide +kernel, by decide +kernel⟩
theorem ok_Lad {f : Addr} {fd : FuncData} (F : Fun K "ladder_table" "ladder_table" sLad f fd)
    {f_Tail : Addr} {d_Tail : FuncData} (G_Tail : FnOk P w K mg base CX0 5 f_Tail d_Tail ["steepness", "k"] (spFr (-20) 21 tN tD)) (b_Tail : Binds K d_Tail ["steepness", "k"] []) (k_Tail : PySem.W.keepIn K (.ref f_Tail) = true) (m_Tail : mg "tail_of" = some (.ref f_Tail))
    {f_Share : Addr} {d_Share : FuncData} (G_Share : FnOk P w K mg base CX0 4 f_Share d_Share ["steepness", "k"] (spFr (-21) 21 (fun p q k => shN p q k.natAbs) (fun p q k => shD p q k.natAbs))) (b_Share : Binds K d_Share ["steepness", "k"] []) (k_Share : PySem.W.keepIn K (.ref f_Share) = true) (m_Share : mg "share_of" = some (.ref f_Share))
    (m_tuple : mg "tuple" = none) (m_range : mg "range" = none) :
    FnOk P w K mg base CX0 6 f fd ["number", "steepness", "low", "high"] spLad := by
  refine F.ok scLad (fun vs H Q E h => ?_) (fun cdv A outer s H vs Q E hr h => ?_)
  · obtain ⟨st, p, q, n, lo, hi, rfl, _⟩ := h
    rfl
  obtain ⟨st, p, q, n, lo, hi, rfl, hst, hs, en, n0, n1, k⟩ := h
  have hu := hu_of hr
  have hr1 : Room 1 _ := hr.mono (by decide)
  have hr4 : Room 4 _ := hr.mono (by decide)
  have hr5 : Room 5 _ := hr.mono (by decide)
  refine ⟨_, (pss_cons (ps_if (pt_cmpR op_eq (pv 2) (pv 3) (nomark _)) (pss_one (ps_ret (pe_tup (pa_cons (pe_tup (pa_cons (pv 2) (pa_cons (pe_tup (pa_cons pe_int (pa_cons pe_int pa_nil))) pa_nil))) pa_nil)))) pss_nil)
    (pss_cons (ps_setC ["rung", "steepness", "number"] [none, some 1, some 0] (i := 4) scLad.nd rfl (Or.inl rfl) (pi_range2 (by rfl) m_range (pa_cons (pe_op op_add (pv 2) pe_int) (pa_cons (pv 3) pa_nil))) (fun _ _ _ _ => (pg_name (i := 0) (nd_Lad1) rfl (Or.inl rfl))) (fun _ _ _ _ => pf_nil) (fun _ _ _ _ => (pe_tup (pa_cons (pv 0) (pa_cons (pe_call G_Share hr4 (by rfl) m_Share k_Share b_Share .nil pass0 (pa_cons (pv 1) (pa_cons (pe_op op_sub (pv 0) (pv 2)) pa_nil))) pa_nil)))))
    (pss_cons (ps_set (i := 5) scLad.nd rfl (Or.inl rfl) (pe_tup (pa_cons (pv 2) (pa_cons (pe_call G_Tail hr5 (by rfl) m_Tail k_Tail b_Tail .nil pass0 (pa_cons (pv 1) (pa_cons (pe_op op_sub (pv 0) (pv 2)) pa_nil))) pa_nil))))
    (pss_cons (ps_set (i := 6) scLad.nd rfl (Or.inl rfl) (pe_tup (pa_cons (pv 3) (pa_cons (pe_call G_Tail hr5 (by rfl) m_Tail k_Tail b_Tail .nil pass0 (pa_cons (pv 1) (pa_cons (pe_op op_sub (pv 3) (pv 0)) pa_nil))) pa_nil))))
    (pss_one (ps_ret (pe_callTy call_tuple_of (by rfl) m_tuple PyProof.Rows.boot_tuple (pa_cons (pe_op op_cat (pe_op op_cat (pe_lst (pa_cons (pv 5) pa_nil)) (pv 4)) (pe_lst (pa_cons (pv 6) pa_nil))) pa_nil)))))))), ?_⟩
  obtain ⟨a1, a2, a3⟩ := id en
  refine ⟨_, rfl, _, rfl, rfl, _, rfl, ?_⟩
  by_cases c : lo = hi
  · refine iteP (by simp [c]) ?_
    refine ⟨_, rfl, by show 2 ≤ sizeLine; decide, fun t1 ht1 => ⟨by show 2 ≤ sizeLine; decide, fun t2 ht2 => ⟨by show 1 ≤ sizeLine; decide, fun t3 ht3 => ?_⟩⟩⟩
    refine k _ t3 _ ((same_new ht1 _).trans ((same_new ht2 _).trans (same_new ht3 _))) upd_same ?_
    unfold tableI
    rw [if_pos c]
    exact ⟨⟨t2, t1, rfl, same_new ht3 _ _ _ upd_same, same_new ht3 _ _ _ (same_new ht2 _ _ _ upd_same)⟩, trivial⟩
  refine iteN (by simp [c]) ?_
  have lt : lo < hi := by omega
  refine ⟨_, rfl, _, _, rfl, rfl, _, rfl, _, _, rfl, ⟨by omega, by omega, by omega, by omega⟩, comp_range (n := (hi - (lo + 1)).toNat) (fun i zs σ H2 => Same H H2 ∧ (∃ v, σ = [v, some (.ref st), some (.int n)]) ∧ Two (Ent H2) zs ((rangeI (lo + 1) i).map (ent p q lo hi n)))
    (small1000 (by omega)) ⟨Same.refl _, ⟨_, rfl⟩, trivial⟩ (by rintro i zs σ H2 ⟨_, _, e⟩; rw [e.length, List.length_map, rangeI_len]; exact Nat.le_refl _) ?_ ?_⟩
  · rintro i zs σ H2 hi' ⟨s2, ⟨v, rfl⟩, tw⟩
    refine ⟨_, rfl, _, rfl, _, rfl, _, rfl, _, _, rfl, rfl, st, p, q, lo + 1 + i - n, rfl, s2 _ _ hst, hs, by omega, by omega, fun H3 r s3 hr' => ⟨by show 2 ≤ sizeLine; decide, fun t ht => ?_⟩⟩
    refine ⟨s2.trans (s3.trans (same_new ht _)), ⟨_, rfl⟩, ?_⟩
    rw [rangeI_succ, List.map_append]
    refine Two.append (tab_ts (.of (s3.trans (same_new ht _))) tw) ⟨⟨t, r, rfl, upd_same, ?_⟩, trivial⟩
    have hne : ¬ (lo + 1 + (i : Int) = lo ∨ lo + 1 + (i : Int) = hi) := by omega
    have hr2 := same_new ht (.tup [.int (lo + 1 + i), .ref r]) _ _ hr'
    unfold ent eN eD
    rw [if_neg hne]
    exact hr2
  rintro bs σ H2 ⟨s2, _, tw⟩ lb hlb
  have g2 : Same H (upd H2 lb (.lst bs)) := s2.trans (same_new hlb _)
  have hb2 : upd H2 lb (.lst bs) lb = some (.lst bs) := upd_same
  have tw2 := tab_ts (.of (same_new hlb (.lst bs))) tw
  have hbl : bs.length ≤ 1000 := by rw [tw.length, List.length_map, rangeI_len]; omega
  generalize upd H2 lb (.lst bs) = H3 at g2 hb2 tw2 ⊢
  -- the lowest rung
  refine ⟨_, rfl, _, rfl, _, rfl, _, rfl, _, _, rfl, rfl, st, p, q, n - lo, rfl, g2 _ _ hst, hs, by omega, by omega, fun H4 r4 s4 h4 => ⟨by show 2 ≤ sizeLine; decide, fun t4 ht4 => ?_⟩⟩
  have g4 := s4.trans (same_new ht4 (.tup [.int lo, .ref r4]))
  have e4 : Ent (upd H4 t4 (.tup [.int lo, .ref r4])) (.ref t4) (ent p q lo hi n lo) := by
    refine ⟨t4, r4, rfl, upd_same, same_new ht4 _ _ _ ?_⟩
    have ek : (lo - n).natAbs = (n - lo).toNat := by omega
    have c0 : 0 ≤ n - lo := by omega
    unfold tN tD at h4
    simp only [if_pos c0] at h4
    unfold ent eN eD
    rw [if_pos (Or.inl rfl), ek]
    exact h4
  generalize upd H4 t4 (.tup [.int lo, .ref r4]) = H5 at g4 e4 ⊢
  -- the highest
  refine ⟨_, rfl, _, rfl, _, rfl, _, rfl, _, _, rfl, rfl, st, p, q, hi - n, rfl, g4 _ _ (g2 _ _ hst), hs, by omega, by omega, fun H6 r6 s6 h6 => ⟨by show 2 ≤ sizeLine; decide, fun t6 ht6 => ?_⟩⟩
  have g6 := s6.trans (same_new ht6 (.tup [.int hi, .ref r6]))
  have e6 : Ent (upd H6 t6 (.tup [.int hi, .ref r6])) (.ref t6) (ent p q lo hi n hi) := by
    refine ⟨t6, r6, rfl, upd_same, same_new ht6 _ _ _ ?_⟩
    have ek : (hi - n).natAbs = (hi - n).toNat := by omega
    have c0 : 0 ≤ hi - n := by omega
    unfold tN tD at h6
    simp only [if_pos c0] at h6
    unfold ent eN eD
    rw [if_pos (Or.inr rfl), ek]
    exact h6
  generalize upd H6 t6 (.tup [.int hi, .ref r6]) = H7 at g6 e6 ⊢
  -- all of them
  refine ⟨_, rfl, by show 1 ≤ sizeLine; decide, fun l1 hl1 => ?_⟩
  have hb7 : H7 lb = some (.lst bs) := g6 _ _ (g4 _ _ hb2)
  refine ⟨_, rfl, l1, lb, _, _, rfl, rfl, upd_same, same_new hl1 _ _ _ hb7, Nat.le_of_lt (small1000 (by show 1 + bs.length ≤ 1000; rw [tw.length, List.length_map, rangeI_len]; omega)), fun l2 hl2 => ?_⟩
  refine ⟨_, rfl, by show 1 ≤ sizeLine; decide, fun l3 hl3 => ?_⟩
  refine ⟨l2, l3, _, _, rfl, rfl, same_new hl3 _ _ _ upd_same, upd_same, Nat.le_of_lt (small1000 (by rw [List.length_append]; show 1 + bs.length + 1 ≤ 1000; rw [tw.length, List.length_map, rangeI_len]; omega)), fun l4 hl4 => ?_⟩
  refine ⟨l4, _, rfl, .inl ⟨SqL.of upd_same, fun u hu' => ?_⟩⟩
  have gg := (same_new hl1 (.lst [.ref t4])).trans ((same_new hl2 _).trans ((same_new hl3 _).trans ((same_new hl4 _).trans (same_new hu' (.tup ([V.ref t4] ++ bs ++ [V.ref t6]))))))
  refine k _ u _ (g2.trans (g4.trans (g6.trans gg))) upd_same ?_
  unfold tableI
  rw [if_neg c, range_parts lt, List.map_append, List.map_append]
  refine Two.append (Two.append ⟨e4.ts ((TS.of g6).trans (TS.of gg)), trivial⟩ (tab_ts ((TS.of (g4.trans g6)).trans (TS.of gg)) tw2)) ⟨e6.ts (TS.of gg), trivial⟩
end
end Mine
namespace Mine
open PySem L2
section
variable {P : Program} {w : World} {K : PySem.W.Frag} {mg : Str → Option Value} {base : Heap}
theorem scFirstT : FnScope ["row", "crowd", "low", "high", "numbers", "pairs", "mark", "share", "left", "place", "number", "yes"] ["row", "crowd"] (defScope sFirstT) := ⟨rfl, rfl, rfl, by decide +kernel, rfl, by decide +kernel, by decide +kernel⟩
theorem ok_FirstT {f : Addr} {fd : FuncData} (F : Fun K "first_table" "first_table" sFirstT f fd)
    {f_Num : Addr} {d_Num : FuncData} (G_Num : FnOk P w K mg base CX0 3 f_Num d_Num ["row", "crowd"] spNumF) (b_Num : Binds K d_Num ["row", "crowd"] []) (k_Num : PySem.W.keepIn K (.ref f_Num) = true) (m_Num : mg "number_of" = some (.ref f_Num))
    {f_Lad : Addr} {d_Lad : FuncData} (G_Lad : FnOk P w K mg base CX0 6 f_Lad d_Lad ["number", "steepness", "low", "high"] spLad) (b_Lad : Binds K d_Lad ["number", "steepness", "low", "high"] []) (k_Lad : PySem.W.keepIn K (.ref f_Lad) = true) (m_Lad : mg "ladder_table" = some (.ref f_Lad))
    {f_Merg : Addr} {d_Merg : FuncData} (G_Merg : FnOk P w K mg base CX0 4 f_Merg d_Merg ["pairs"] spMerged) (b_Merg : Binds K d_Merg ["pairs"] []) (k_Merg : PySem.W.keepIn K (.ref f_Merg) = true) (m_Merg : mg "merged" = some (.ref f_Merg))
    {f_From : Addr} {d_From : FuncData} (G_From : FnOk P w K mg base CX0 6 f_From d_From ["mark", "number", "steepness", "low", "high"] spFrom) (b_From : Binds K d_From ["mark", "number", "steepness", "low", "high"] []) (k_From : PySem.W.keepIn K (.ref f_From) = true) (m_From : mg "share_from" = some (.ref f_From))
    {f_Times : Addr} {d_Times : FuncData} (G_Times : FnOk P w K mg base CX0 3 f_Times d_Times ["one", "other"] spTimes) (b_Times : Binds K d_Times ["one", "other"] []) (k_Times : PySem.W.keepIn K (.ref f_Times) = true) (m_Times : mg "times" = some (.ref f_Times))
    {f_Minus : Addr} {d_Minus : FuncData} (G_Minus : FnOk P w K mg base CX0 3 f_Minus d_Minus ["one", "other"] spMinus) (b_Minus : Binds K d_Minus ["one", "other"] []) (k_Minus : PySem.W.keepIn K (.ref f_Minus) = true) (m_Minus : mg "minus" = some (.ref f_Minus))
    (m_enumerate : mg "enumerate" = none) (m_len : mg "len" = none) :
    FnOk P w K mg base CX0 7 f fd ["row", "crowd"] spFirstT := by
  refine F.ok scFirstT (fun vs H Q E h => ?_) (fun cdv A outer s H vs Q E hr h => ?_)
  · obtain ⟨r, c, x, mk, sa, sb, sm, lo, hi, wss, cs, pa, qa, pb, qb, rfl, _⟩ := h
    rfl
  obtain ⟨r, c, x, mk, sa, sb, sm, lo, hi, wss, cs, pa, qa, pb, qb, rfl, FA, k⟩ := h
  have hu := hu_of hr
  have hr1 : Room 1 _ := hr.mono (by decide)
  have hr3 : Room 3 _ := hr.mono (by decide)
  have hr4 : Room 4 _ := hr.mono (by decide)
  have hr6 : Room 6 _ := hr.mono (by decide)
  refine ⟨_, (pss_cons (ps_set (i := 2) scFirstT.nd rfl (Or.inl rfl) (pe_ix ix_tup (pv 0) pe_int (fun _ _ => rfl)))
    (pss_cons (ps_set (i := 3) scFirstT.nd rfl (Or.inl rfl) (pe_ix ix_tup (pv 0) pe_int (fun _ _ => rfl)))
    (pss_cons (ps_set (i := 4) scFirstT.nd rfl (Or.inl rfl) (pe_call G_Num hr3 (by rfl) m_Num k_Num b_Num .nil pass0 (pa_cons (pv 0) (pa_cons (pv 1) pa_nil))))
    (pss_cons (ps_set (i := 5) scFirstT.nd rfl (Or.inl rfl) (pe_lst pa_nil))
    (pss_cons (ps_for PassesOwn.never rfl (pi_tup (pe_call G_Lad hr6 (by rfl) m_Lad k_Lad b_Lad .nil pass0 (pa_cons (pe_ix ix_tup (pv 0) pe_int (fun _ _ => rfl)) (pa_cons (pe_ix ix_tup (pv 0) pe_int (fun _ _ => rfl)) (pa_cons (pv 2) (pa_cons (pv 3) pa_nil)))))) (pg_tup rfl (pgs_cons (pg_name (i := 6) scFirstT.nd rfl (Or.inl rfl)) (pgs_cons (pg_name (i := 7) scFirstT.nd rfl (Or.inl rfl)) pgs_nil)))
    (pss_cons (ps_set (i := 8) scFirstT.nd rfl (Or.inl rfl) (pv 7))
    (pss_cons (ps_for PassesOwn.never rfl (pi_enumT (by rfl) m_enumerate (pa_cons (pv 4) pa_nil)) (pg_tup rfl (pgs_cons (pg_name (i := 9) scFirstT.nd rfl (Or.inl rfl)) (pgs_cons (pg_name (i := 10) scFirstT.nd rfl (Or.inl rfl)) pgs_nil)))
    (pss_cons (ps_set (i := 11) scFirstT.nd rfl (Or.inl rfl) (pe_call G_From hr6 (by rfl) m_From k_From b_From .nil pass0 (pa_cons (pv 6) (pa_cons (pv 10) (pa_cons (pe_ix ix_tup (pv 0) pe_int (fun _ _ => rfl)) (pa_cons (pv 2) (pa_cons (pe_op op_sub (pv 3) pe_int) pa_nil)))))))
    (pss_cons (ps_expr (pe_bm PySem.F.plainAttrs_list PySem.F.slot_list_append PySem.F.type_list_append mt_append (pv 5) (pa_cons (pe_tup (pa_cons (pv 9) (pa_cons (pe_call G_Times hr3 (by rfl) m_Times k_Times b_Times .nil pass0 (pa_cons (pv 8) (pa_cons (pv 11) pa_nil))) pa_nil))) pa_nil)))
    (pss_one (ps_set (i := 8) scFirstT.nd rfl (Or.inl rfl) (pe_call G_Times hr3 (by rfl) m_Times k_Times b_Times .nil pass0 (pa_cons (pv 8) (pa_cons (pe_call G_Minus hr3 (by rfl) m_Minus k_Minus b_Minus .nil pass0 (pa_cons (pe_tup (pa_cons pe_int (pa_cons pe_int pa_nil))) (pa_cons (pv 11) pa_nil))) pa_nil))))))))
    (pss_one (ps_expr (pe_bm PySem.F.plainAttrs_list PySem.F.slot_list_append PySem.F.type_list_append mt_append (pv 5) (pa_cons (pe_tup (pa_cons (pe_callB call_len_seq (by rfl) m_len PySem.boot_len (pa_cons (pv 4) pa_nil)) (pa_cons (pv 8) pa_nil))) pa_nil)))))))
    (pss_one (ps_ret (pe_call G_Merg hr4 (by rfl) m_Merg k_Merg b_Merg .nil pass0 (pa_cons (pv 5) pa_nil))))))))), ?_⟩
  obtain ⟨hw, so, hcs, few, hsa, hsb, F⟩ := id FA
  have ea := F.en.a
  have eb := F.en.b
  have ec := F.en.c
  refine ⟨_, rfl, r, _, _, _, rfl, rfl, SqT.of hw, rfl, ?_⟩
  refine ⟨_, rfl, r, _, _, _, rfl, rfl, SqT.of hw, rfl, ?_⟩
  refine ⟨_, rfl, _, rfl, r, x, mk, sa, sb, sm, lo, hi, wss, c, cs, rfl, hw, so, hcs, few, fun H1 nt s1 hnt => ?_⟩
  generalize hns : numsI wss cs lo (hi - 1) = ns at hnt F k
  refine ⟨Nat.zero_le _, fun lp hlp => ?_⟩
  have hlp0 : H lp = none := by
    cases q : H lp with
    | none => rfl
    | some o => rw [s1 _ _ q] at hlp; cases hlp
  have s1' := s1.trans (same_new hlp (.lst []))
  have hnt1 := same_new hlp (.lst []) _ _ hnt
  have hlp1 : upd H1 lp (.lst []) lp = some (.lst []) := upd_same
  generalize upd H1 lp (.lst []) = H1' at s1' hnt1 hlp1 ⊢
  refine ⟨_, rfl, r, _, _, _, rfl, rfl, SqT.of (s1' _ _ hw), rfl, _, rfl, r, _, _, _, rfl, rfl, SqT.of (s1' _ _ hw), rfl, _, rfl, _, rfl, ?_⟩
  refine ⟨sa, pa, qa, mk, lo, hi, rfl, s1' _ _ hsa, F.sa, ⟨ea, by omega, ec⟩, F.m0, F.m1, fun H2 lt us s2 hlt tw => ?_⟩
  rw [ladder_ents F.sa F.m0 F.m1 (by omega)] at tw
  have g2 := s1'.trans s2
  have hlp2 := s2 _ _ hlp1
  have hnt2 : IntsAt H2 nt ns := s2 _ _ hnt1
  have wb := wF_bd F.sa F.sb F.en F.l4
  have ul : us.length = (hi + 1 - lo).toNat := by rw [tw.length, List.length_map, rangeI_len]
  have l4 := F.l4
  have b34 := bot34 F.sa ea (show lo ≤ hi by omega) ec
  have u34 := bot34 (lo := lo) (hi := hi - 1) F.sb ea (by omega) (by omega)
  refine ⟨lt, rfl, ⟨_, SqT.of hlt⟩, for_tupA (K := K) (a := lt) (xs := us) (fun j σ Hj => ∃ ps v6 v7 v8 v9 v10 v11, σ = [some (.ref r), some (.ref c), some (.int lo), some (.int hi), some (.ref nt), some (.ref lp), v6, v7, v8, v9, v10, v11] ∧ Same H Hj ∧ TS H2 Hj ∧ Hj lp = some (.lst ps) ∧ Two (Ent Hj) ps ((cellsN pa qa pb qb mk ns lo hi j).map (lowE (wF pa qa pb qb lo hi ns.length))))
    ⟨[], _, _, _, _, _, _, rfl, g2, fun _ _ e => e, hlp2, trivial⟩ (by rintro j σ Hj _ ⟨_, _, _, _, _, _, _, _, _, t, _⟩; exact SqT.of (t _ _ hlt)) ?_ ?_⟩
  · rintro D' j v σ Hj hv ⟨ps, v6, v7, v8, v9, v10, v11, rfl, sj, tj, hlpj, twj⟩
    have hj : j < (hi + 1 - lo).toNat := by rw [← ul]; exact (List.getElem?_eq_some_iff.mp hv).1
    obtain ⟨e, he, t, q0, rfl, ht, hq0⟩ := tw.at hv
    rw [List.getElem?_map, rangeI_get hj] at he
    have ee : e = (lo + (j : Int), lowP (lawSh pa qa lo hi mk (lo + (j : Int))) (botI pa qa lo hi)) := (Option.some.inj he).symm
    subst ee
    refine ⟨t, _, rfl, SqT.of (tj _ _ ht), rfl, _, _, rfl, _, _, rfl, rfl, ?_⟩
    refine ⟨_, rfl, ?_⟩
    have l0 := law_nn (lo := lo) (hi := hi) (n := mk) (y := lo + (j : Int)) F.sa
    have lb := sh_le_bot F.sa F.m0 F.m1 (show lo < hi by omega) (show lo ≤ lo + (j : Int) by omega) (show lo + (j : Int) ≤ hi by omega)
    have tris := F.tris (m := lo + (j : Int))
    have pe : botI pa qa lo hi * prodU (ns.map (tri pb qb lo (hi - 1) (lo + (j : Int)))) = (wF pa qa pb qb lo hi ns.length) := by rw [prodU_tri]; rfl
    have psl := twj.length
    rw [List.length_map, cells_len] at psl
    have jb : j * (ns.length + 1) ≤ 10 * 5 := Nat.mul_le_mul (show j ≤ 10 by omega) (show ns.length + 1 ≤ 5 by omega)
    refine ⟨_, rfl, nt, rfl, ⟨_, SqT.of (tj _ _ hnt2)⟩, for_enumTA (K := K) (a := nt) (xs := ns.map V.int) (fun i σ Hi => ∃ ps2 l D dc q v9 v10 v11, σ = [some (.ref r), some (.ref c), some (.int lo), some (.int hi), some (.ref nt), some (.ref lp), some (.int (lo + (j : Int))), some (.ref q0), some (.ref q), v9, v10, v11] ∧ Same H Hi ∧ TS H2 Hi ∧ Hi lp = some (.lst ps2) ∧
        Two (Ent Hi) ps2 ((cellsN pa qa pb qb mk ns lo hi j ++ keyed 0 dc).map (lowE (wF pa qa pb qb lo hi ns.length))) ∧ contrib (lawSh pa qa lo hi mk (lo + (j : Int))) (ns.map (tri pb qb lo (hi - 1) (lo + (j : Int)))) = dc ++ contrib l ((ns.map (tri pb qb lo (hi - 1) (lo + (j : Int)))).drop i) ∧ dc.length = i ∧
        TupAt Hi q (lowP l D).1 (lowP l D).2 ∧ 0 ≤ l ∧ l ≤ D ∧ 1 ≤ D ∧ D * prodU ((ns.map (tri pb qb lo (hi - 1) (lo + (j : Int)))).drop i) = (wF pa qa pb qb lo hi ns.length))
      ⟨ps, lawSh pa qa lo hi mk (lo + (j : Int)), botI pa qa lo hi, [], q0, _, _, _, rfl, sj, tj, hlpj, by rw [show keyed 0 [] = [] from rfl, List.append_nil]; exact twj, rfl, rfl, tj _ _ hq0, by omega, lb, b34.1, pe⟩ (by rintro i σ Hi _ ⟨_, _, _, _, _, _, _, _, _, _, t, _⟩; exact SqT.of (t _ _ hnt2)) ?_ ?_⟩
    · rintro D' i y σ Hi t2 hy ⟨ps2, l, D, dc, q, v9, v10, v11, rfl, si, ti, hlpi, twi, ecc, dl, hq, l0', lD, D1, pD⟩ ht2
      obtain ⟨n, rfl, hn⟩ := ints_at hy
      have hin : i < ns.length := (List.getElem?_eq_some_iff.mp hn).1
      have nn := F.nn n (List.mem_of_getElem? hn)
      have hdrop : (ns.map (tri pb qb lo (hi - 1) (lo + (j : Int)))).drop i = tri pb qb lo (hi - 1) (lo + (j : Int)) n :: (ns.map (tri pb qb lo (hi - 1) (lo + (j : Int)))).drop (i + 1) := drop_tri (by rw [List.getElem?_map, hn]; rfl)
      have tt : Tri (tri pb qb lo (hi - 1) (lo + (j : Int)) n) := tris _ (List.mem_map.mpr ⟨n, List.mem_of_getElem? hn, rfl⟩)
      rw [hdrop] at ecc pD
      have prp : 1 ≤ prodU ((ns.map (tri pb qb lo (hi - 1) (lo + (j : Int)))).drop (i + 1)) := prodU_pos fun t ht => tris t (List.mem_of_mem_drop ht)
      generalize (ns.map (tri pb qb lo (hi - 1) (lo + (j : Int)))).drop (i + 1) = rest at ecc pD prp ⊢
      have ta : 0 ≤ aft pb qb lo (hi - 1) n (lo + (j : Int)) := tt.a
      have tc : 0 ≤ bef pb qb lo (hi - 1) n (lo + (j : Int)) := tt.c
      have tS : aft pb qb lo (hi - 1) n (lo + (j : Int)) + bef pb qb lo (hi - 1) n (lo + (j : Int)) = botI pb qb lo (hi - 1) := tt.s
      have pD' : D * (botI pb qb lo (hi - 1) * prodU rest) = (wF pa qa pb qb lo hi ns.length) := pD
      have ecc' : contrib (lawSh pa qa lo hi mk (lo + (j : Int))) (ns.map (tri pb qb lo (hi - 1) (lo + (j : Int)))) = dc ++ (l * aft pb qb lo (hi - 1) n (lo + (j : Int)) * prodU rest :: contrib (l * bef pb qb lo (hi - 1) n (lo + (j : Int))) rest) := ecc
      have up : 1 ≤ botI pb qb lo (hi - 1) * prodU rest := by
        have := Int.mul_pos (show 0 < botI pb qb lo (hi - 1) by omega) (show 0 < prodU rest by omega)
        omega
      have dW := Int.mul_le_mul_of_nonneg_left up (show 0 ≤ D by omega)
      rw [pD', Int.mul_one] at dW
      have si2 := si.trans (same_new ht2 (.tup [.int i, .int n]))
      have ti2 := ti.trans (TS.of (same_new ht2 (.tup [.int i, .int n])))
      have hlpi2 := same_new ht2 (.tup [.int i, .int n]) _ _ hlpi
      have twi2 := tab_ts (.of (same_new ht2 (.tup [.int i, .int n]))) twi
      have hq2 := same_new ht2 (.tup [.int i, .int n]) _ _ hq
      have htt : upd Hi t2 (.tup [.int i, .int n]) t2 = some (.tup [.int i, .int n]) := upd_same
      generalize upd Hi t2 (.tup [.int i, .int n]) = Ha at si2 ti2 hlpi2 twi2 hq2 htt ⊢
      refine ⟨t2, _, rfl, SqT.of htt, rfl, _, _, rfl, _, _, rfl, rfl, ?_⟩
      refine ⟨_, rfl, _, rfl, _, rfl, r, _, _, _, rfl, rfl, SqT.of (si2 _ _ hw), rfl, _, rfl, _, rfl, _, _, rfl, rfl, ?_⟩
      refine ⟨sb, pb, qb, lo + (j : Int), n, lo, hi - 1, rfl, si2 _ _ hsb, F.sb, by omega, by omega, fun Hb qy sB hqy => ?_⟩
      rw [yes_low F.sb nn.1 nn.2 (by omega) (by omega) u34.1] at hqy
      have si3 := si2.trans sB
      have ti3 := ti2.trans (TS.of sB)
      have hlp3 := sB _ _ hlpi2
      have tw3 := tab_ts (.of sB) twi2
      have hq3 : TupAt Hb q (lowP l D).1 (lowP l D).2 := sB _ _ hq2
      generalize aft pb qb lo (hi - 1) n (lo + (j : Int)) = A at ta tS ecc' hqy ⊢
      generalize bef pb qb lo (hi - 1) n (lo + (j : Int)) = C at tc tS ecc' ⊢
      generalize hU : botI pb qb lo (hi - 1) = U at tS pD' up hqy u34
      have fl : Fr72 (lowP l D) := low_fr l0' (by omega) D1 (by omega)
      have fy : Fr72 (lowP A U) := low_fr ta (by omega) u34.1 (by omega)
      have fc : Fr72 (lowP C U) := low_fr tc (by omega) u34.1 (by omega)
      have x1 := Int.mul_nonneg l0' ta
      have x2 := Int.mul_nonneg l0' tc
      have x3 := Int.mul_pos (show 0 < D by omega) (show 0 < U by omega)
      have x4 := Int.mul_nonneg x1 (show 0 ≤ prodU rest by omega)
      refine ⟨_, rfl, .inl ⟨rfl, _, SqL.of hlp3⟩, ?_⟩
      refine ⟨_, rfl, _, rfl, _, rfl, q, qy, _, _, _, _, rfl, hq3, hqy, fl.1, fl.2.1, fy.1, fy.2.1, fl.2.2, fy.2.2, fun r6 hr6 => ⟨by show 2 ≤ sizeLine; decide, fun t6 ht6 => ?_⟩⟩
      have e6 : lowP ((lowP l D).1 * (lowP A U).1) ((lowP l D).2 * (lowP A U).2) = lowP (l * A * prodU rest) (wF pa qa pb qb lo hi ns.length) := by
        rw [mul_low l0' D1 ta u34.1]
        refine lowP_eq x1 (by omega) x4 wb.1 ?_
        rw [← pD']
        generalize prodU rest = pr
        grind
      have hr6' : TupAt (upd Hb r6 (.tup (lowI ((lowP l D).1 * (lowP A U).1) ((lowP l D).2 * (lowP A U).2)))) r6 (lowP (l * A * prodU rest) (wF pa qa pb qb lo hi ns.length)).1 (lowP (l * A * prodU rest) (wF pa qa pb qb lo hi ns.length)).2 := by
        rw [← e6]
        exact upd_same
      have s6 := same_new hr6 (.tup (lowI ((lowP l D).1 * (lowP A U).1) ((lowP l D).2 * (lowP A U).2)))
      generalize upd Hb r6 (.tup (lowI ((lowP l D).1 * (lowP A U).1) ((lowP l D).2 * (lowP A U).2))) = Hc at hr6' s6 ht6 ⊢
      have s7 := s6.trans (same_new ht6 (.tup [.int i, .ref r6]))
      have ht7 : upd Hc t6 (.tup [.int i, .ref r6]) t6 = some (.tup [.int i, .ref r6]) := upd_same
      have hr7 := same_new ht6 (.tup [.int i, .ref r6]) _ _ hr6'
      generalize upd Hc t6 (.tup [.int i, .ref r6]) = Hd at s7 ht7 hr7 ⊢
      have hlp7 := s7 _ _ hlp3
      have psl2 := tw3.length
      rw [List.length_map, List.length_append, cells_len, keyed_len, dl] at psl2
      refine ⟨lp, ps2, _, rfl, rfl, hlp7, small1000 (by omega), ?_⟩
      have tl : TS Hd (upd Hd lp (.lst (ps2 ++ [.ref t6]))) := TS.lst hlp7
      have si8 : Same H (upd Hd lp (.lst (ps2 ++ [.ref t6]))) := same_lst (si3.trans s7) hlp0
      have tb8 := (TS.of s7).trans tl
      have hlp8 : upd Hd lp (.lst (ps2 ++ [.ref t6])) lp = some (.lst (ps2 ++ [.ref t6])) := upd_same
      have tw8 : Two (Ent (upd Hd lp (.lst (ps2 ++ [.ref t6])))) (ps2 ++ [.ref t6]) ((cellsN pa qa pb qb mk ns lo hi j ++ keyed 0 (dc ++ [l * A * prodU rest])).map (lowE (wF pa qa pb qb lo hi ns.length))) := by
        rw [keyed_snoc, ← List.append_assoc, List.map_append]
        refine Two.append (tab_ts tb8 tw3) ⟨⟨t6, r6, rfl, ?_, tl _ _ hr7⟩, trivial⟩
        rw [dl]
        show _ = some (HO.tup [.int (0 + (i : Int)), .ref r6])
        rw [Int.zero_add]
        exact tl _ _ ht7
      have hq8 : TupAt (upd Hd lp (.lst (ps2 ++ [.ref t6]))) q (lowP l D).1 (lowP l D).2 := tb8 _ _ hq3
      have hqy8 : TupAt (upd Hd lp (.lst (ps2 ++ [.ref t6]))) qy (lowP A U).1 (lowP A U).2 := tb8 _ _ hqy
      have ti8 := ti3.trans tb8
      generalize upd Hd lp (.lst (ps2 ++ [.ref t6])) = He at si8 hlp8 tw8 hq8 hqy8 ti8 ⊢
      have le := low_le (a := A) (b := U) (by omega) u34.1
      refine ⟨_, rfl, by show 2 ≤ sizeLine; decide, fun t9 ht9 => ⟨_, rfl, t9, qy, 1, 1, _, _, rfl, upd_same, same_new ht9 _ _ _ hqy8, ⟨by decide, by decide⟩, ⟨by decide, by decide⟩, fy.1, fy.2.1, by decide, fy.2.2, by show low1 A U * 1 ≤ 1 * low2 A U; omega, fun r9 hr9 => ?_⟩⟩
      have e9 := sub_low ta tc u34.1 tS
      have hr9' : TupAt (upd (upd He t9 (.tup [.int 1, .int 1])) r9 (.tup (lowI (1 * (lowP A U).2 - (lowP A U).1 * 1) (1 * (lowP A U).2)))) r9 (lowP C U).1 (lowP C U).2 := by
        rw [← e9]
        exact upd_same
      have s9 := (same_new ht9 (.tup [.int 1, .int 1])).trans (same_new hr9 (.tup (lowI (1 * (lowP A U).2 - (lowP A U).1 * 1) (1 * (lowP A U).2))))
      generalize upd (upd He t9 (.tup [.int 1, .int 1])) r9 (.tup (lowI (1 * (lowP A U).2 - (lowP A U).1 * 1) (1 * (lowP A U).2))) = Hf at hr9' s9 ⊢
      refine ⟨q, r9, _, _, _, _, rfl, s9 _ _ hq8, hr9', fl.1, fl.2.1, fc.1, fc.2.1, fl.2.2, fc.2.2, fun ra hra => ?_⟩
      have e10 := mul_low l0' D1 tc u34.1
      have sA := s9.trans (same_new hra (.tup (lowI ((lowP l D).1 * (lowP C U).1) ((lowP l D).2 * (lowP C U).2))))
      have hra' : TupAt (upd Hf ra (.tup (lowI ((lowP l D).1 * (lowP C U).1) ((lowP l D).2 * (lowP C U).2)))) ra (lowP (l * C) (D * U)).1 (lowP (l * C) (D * U)).2 := by
        rw [← e10]
        exact upd_same
      have lC : l * C ≤ D * U := Int.le_trans (Int.mul_le_mul_of_nonneg_left (show C ≤ U by omega) l0') (Int.mul_le_mul_of_nonneg_right lD (by omega))
      refine ⟨ps2 ++ [.ref t6], l * C, D * U, dc ++ [l * A * prodU rest], ra, _, _, _, rfl, si8.trans sA, ti8.trans (TS.of sA), sA _ _ hlp8, tab_ts (.of sA) tw8, ?_, by rw [List.length_append, dl]; rfl, hra', x2, lC, by omega, ?_⟩
      · rw [ecc', List.append_assoc]
        rfl
      · rw [Int.mul_assoc]
        exact pD'
    · rintro σ Hi ⟨ps2, l, D, dc, q, v9, v10, v11, rfl, si, ti, hlpi, twi, ecc, dl, hq, l0', lD, D1, pD⟩
      rw [List.length_map] at ecc dl pD
      have hdr : (ns.map (tri pb qb lo (hi - 1) (lo + (j : Int)))).drop ns.length = [] := by rw [List.drop_of_length_le]; rw [List.length_map]; exact Nat.le_refl _
      rw [hdr] at ecc pD
      have pD1 : D * 1 = (wF pa qa pb qb lo hi ns.length) := pD
      rw [Int.mul_one] at pD1
      subst pD1
      refine ⟨_, rfl, .inl ⟨rfl, _, SqL.of hlpi⟩, ?_⟩
      refine ⟨_, rfl, nt, _, rfl, .inr (SqT.of (ti _ _ hnt2)), _, rfl, by show 2 ≤ sizeLine; decide, fun t6 ht6 => ?_⟩
      have s7 := same_new ht6 (.tup [.int ((ns.map V.int).length : Int), .ref q])
      have ht7 : upd Hi t6 (.tup [.int ((ns.map V.int).length : Int), .ref q]) t6 = some (.tup [.int ((ns.map V.int).length : Int), .ref q]) := upd_same
      generalize upd Hi t6 (.tup [.int ((ns.map V.int).length : Int), .ref q]) = Hd at s7 ht7 ⊢
      have hlp7 := s7 _ _ hlpi
      have psl2 := twi.length
      rw [List.length_map, List.length_append, cells_len, keyed_len, dl] at psl2
      refine ⟨lp, ps2, _, rfl, rfl, hlp7, small1000 (by omega), ?_⟩
      have tl : TS Hd (upd Hd lp (.lst (ps2 ++ [.ref t6]))) := TS.lst hlp7
      have tb8 := (TS.of s7).trans tl
      refine ⟨ps2 ++ [.ref t6], _, _, _, _, _, _, rfl, same_lst (si.trans s7) hlp0, ti.trans tb8, upd_same, ?_⟩
      rw [cellsN_succ]
      unfold cellsM
      rw [ecc]
      show Two _ _ ((cellsN pa qa pb qb mk ns lo hi j ++ keyed 0 (dc ++ [l])).map _)
      rw [keyed_snoc, ← List.append_assoc, List.map_append]
      refine Two.append (tab_ts tb8 twi) ⟨⟨t6, q, rfl, ?_, tb8 _ _ hq⟩, trivial⟩
      rw [dl]
      show _ = some (HO.tup [.int (0 + (ns.length : Int)), .ref q])
      rw [Int.zero_add]
      rw [List.length_map] at ht7
      exact tl _ _ ht7
  · rintro σ Hj ⟨ps, v6, v7, v8, v9, v10, v11, rfl, sj, tj, hlpj, twj⟩
    rw [ul] at twj
    refine ⟨_, rfl, lp, ps, _, rfl, hlpj, twj, by rw [List.length_map]; have := F.len; omega, F.safe, fun H3 t ws ks s3 ht hk hm two => ?_⟩
    rw [F.table hk hm] at two
    exact k H3 t ws (sj.trans s3) ht two
theorem scThr : FnScope ["row", "crowd", "numbers"] ["row", "crowd"] (defScope sThr) := ⟨rfl, rfl, rfl, by decide +kernel, rfl, by decide +kernel, by decide +kernel⟩
theorem ok_Thr {f : Addr} {fd : FuncData} (F : Fun K "thrown" "thrown" sThr f fd)
    {f_Num : Addr} {d_Num : FuncData} (G_Num : FnOk P w K mg base CX0 3 f_Num d_Num ["row", "crowd"] spNumF) (b_Num : Binds K d_Num ["row", "crowd"] []) (k_Num : PySem.W.keepIn K (.ref f_Num) = true) (m_Num : mg "number_of" = some (.ref f_Num))
    {f_Lad : Addr} {d_Lad : FuncData} (G_Lad : FnOk P w K mg base CX0 6 f_Lad d_Lad ["number", "steepness", "low", "high"] spLad) (b_Lad : Binds K d_Lad ["number", "steepness", "low", "high"] []) (k_Lad : PySem.W.keepIn K (.ref f_Lad) = true) (m_Lad : mg "ladder_table" = some (.ref f_Lad))
    {f_FirstT : Addr} {d_FirstT : FuncData} (G_FirstT : FnOk P w K mg base CX0 7 f_FirstT d_FirstT ["row", "crowd"] spFirstT) (b_FirstT : Binds K d_FirstT ["row", "crowd"] []) (k_FirstT : PySem.W.keepIn K (.ref f_FirstT) = true) (m_FirstT : mg "first_table" = some (.ref f_FirstT))
     :
    FnOk P w K mg base CX0 8 f fd ["row", "crowd"] spFirstT := by
  refine F.ok scThr (fun vs H Q E h => ?_) (fun cdv A outer s H vs Q E hr h => ?_)
  · obtain ⟨r, c, x, mk, sa, sb, sm, lo, hi, wss, cs, pa, qa, pb, qb, rfl, _⟩ := h
    rfl
  obtain ⟨r, c, x, mk, sa, sb, sm, lo, hi, wss, cs, pa, qa, pb, qb, rfl, FA, k⟩ := h
  have hu := hu_of hr
  have hr1 : Room 1 _ := hr.mono (by decide)
  have hr3 : Room 3 _ := hr.mono (by decide)
  have hr6 : Room 6 _ := hr.mono (by decide)
  have hr7 : Room 7 _ := hr.mono (by decide)
  refine ⟨_, (pss_cons (ps_if (pt_cmpR op_eq (pe_ix ix_tup (pv 0) pe_int (fun _ _ => rfl)) pe_str (nomark _)) (pss_one (ps_ret (pe_call G_FirstT hr7 (by rfl) m_FirstT k_FirstT b_FirstT .nil pass0 (pa_cons (pv 0) (pa_cons (pv 1) pa_nil))))) pss_nil)
    pss_never), ?_⟩
  have hw := FA.1
  refine ⟨_, rfl, r, _, _, _, rfl, rfl, SqT.of hw, rfl, rfl, _, rfl, iteTb (strT _) ?_⟩
  exact ⟨_, rfl, _, rfl, r, c, x, mk, sa, sb, sm, lo, hi, wss, cs, pa, qa, pb, qb, rfl, FA, k⟩
end
end Mine
namespace Mine
open PySem L2
section
variable {P : Program} {w : World} {K : PySem.W.Frag} {mg : Str → Option Value} {base : Heap}
theorem scSteep : FnScope ["_law_deal_here", "_law_half", "_law_q"] ["_law_deal_here", "_law_half"] (defScope sSteep) := ⟨rfl, rfl, rfl, by decide +kernel, rfl, by decide +kernel, by decide +kernel⟩
theorem ok_Steep {f : Addr} {fd : FuncData} (F : Fun K "_law_steepness" "_law_steepness" sSteep f fd)
    {f_LLow : Addr} {d_LLow : FuncData} (G_LLow : FnOk P w K mg base CX0 1 f_LLow d_LLow ["_law_top", "_law_bottom"] spLow) (b_LLow : Binds K d_LLow ["_law_top", "_law_bottom"] []) (k_LLow : PySem.W.keepIn K (.ref f_LLow) = true) (m_LLow : mg "_law_lowest" = some (.ref f_LLow))
    {f_Draw : Addr} {d_Draw : FuncData} (G_Draw : FnOk P w K mg base CX0 1 f_Draw d_Draw ["_law_deal_here", "_law_many"] spDraw) (b_Draw : Binds K d_Draw ["_law_deal_here", "_law_many"] []) (k_Draw : PySem.W.keepIn K (.ref f_Draw) = true) (m_Draw : mg "_law_draw" = some (.ref f_Draw))
    (m_int : mg "int" = none) :
    FnOk P w K mg base CX0 2 f fd ["_law_deal_here", "_law_half"] spSteepB := by
  refine F.ok scSteep (fun vs H Q E h => ?_) (fun cdv A outer s H vs Q E hr h => ?_)
  · obtain ⟨d, l, b, rfl, _⟩ := h
    rfl
  obtain ⟨d, l, b, rfl, D, k⟩ := h
  have hu := hu_of hr
  have hr1 : Room 1 _ := hr.mono (by decide)
  refine ⟨_, (pss_cons (ps_set (i := 2) scSteep.nd rfl (Or.inl rfl) (pe_op op_add pe_int (pe_call G_Draw hr1 (by rfl) m_Draw k_Draw b_Draw .nil pass0 (pa_cons (pv 0) (pa_cons pe_int pa_nil)))))
    (pss_one (ps_ret (pe_call G_LLow hr1 (by rfl) m_LLow k_LLow b_LLow .nil pass0 (pa_cons (pe_op op_add pe_int (pe_call G_Draw hr1 (by rfl) m_Draw k_Draw b_Draw .nil pass0 (pa_cons (pv 0) (pa_cons (pe_ix ix_list (pe_lst (pa_cons (pe_op op_sub (pv 2) pe_int) (pa_cons (pe_op op_fdivB (pv 2) pe_int) pa_nil))) (pe_callTy call_int1 (by rfl) m_int PyProof.Rows.boot_int (pa_cons (pv 1) pa_nil)) (fun _ _ => rfl)) pa_nil)))) (pa_cons (pv 2) pa_nil)))))), ?_⟩
  refine ⟨_, rfl, d, l, 8, rfl, D, by decide, by decide, fun x H1 x0 x1 D1 o1 => ⟨_, _, rfl, rfl, ?_⟩⟩
  refine ⟨_, rfl, _, rfl, _, _, rfl, rfl, _, rfl, _, _, rfl, rfl, ⟨by decide, by decide⟩, by show 2 ≤ sizeLine; decide, fun p hp => ?_⟩
  refine ⟨_, rfl, .inr ⟨_, rfl, ?_⟩⟩
  obtain ⟨w, e, hw⟩ := two_at (r := if b = true then 1 else 0) (x := 2 + x - 1) (y := (2 + x) / 2) (by split <;> decide) (by split <;> decide)
  refine ⟨p, _, _, _, rfl, rfl, SqL.of upd_same, e, ?_⟩
  have w1 : 1 ≤ w ∧ w ≤ 1 + x := by rcases hw with z | z <;> omega
  refine ⟨d, l, w, rfl, D1.same (same_new hp _), by omega, by omega, fun y H2 y0 y1 D2 o2 => ⟨_, _, rfl, rfl, ?_⟩⟩
  refine ⟨_, rfl, 1 + y, 2 + x, rfl, by omega, by omega, by omega, fun r hr' => ?_⟩
  refine k r _ _ _ upd_same (steep_low (by omega) (by omega) (by omega)) (D2.same (same_new hr' _)) ?_
  exact o1.trans ((Out.of (same_new hp _)).trans (o2.trans (Out.of (same_new hr' _))))
theorem scEnds : FnScope ["_law_deal_here", "_law_least", "_law_low"] ["_law_deal_here", "_law_least"] (defScope sEnds) := ⟨rfl, rfl, rfl, by decide +kernel, rfl, by decide +kernel, by decide +kernel⟩
theorem ok_Ends {f : Addr} {fd : FuncData} (F : Fun K "_law_ends" "_law_ends" sEnds f fd)
    {f_Draw : Addr} {d_Draw : FuncData} (G_Draw : FnOk P w K mg base CX0 1 f_Draw d_Draw ["_law_deal_here", "_law_many"] spDraw) (b_Draw : Binds K d_Draw ["_law_deal_here", "_law_many"] []) (k_Draw : PySem.W.keepIn K (.ref f_Draw) = true) (m_Draw : mg "_law_draw" = some (.ref f_Draw))
     :
    FnOk P w K mg base CX0 2 f fd ["_law_deal_here", "_law_least"] spEnds1 := by
  refine F.ok scEnds (fun vs H Q E h => ?_) (fun cdv A outer s H vs Q E hr h => ?_)
  · obtain ⟨d, l, rfl, _⟩ := h
    rfl
  obtain ⟨d, l, rfl, D, k⟩ := h
  have hu := hu_of hr
  have hr1 : Room 1 _ := hr.mono (by decide)
  refine ⟨_, (pss_cons (ps_set (i := 2) scEnds.nd rfl (Or.inl rfl) (pe_call G_Draw hr1 (by rfl) m_Draw k_Draw b_Draw .nil pass0 (pa_cons (pv 0) (pa_cons (pe_op op_sub pe_int (pv 1)) pa_nil))))
    (pss_one (ps_ret (pe_tup (pa_cons (pv 2) (pa_cons (pe_op op_add (pe_op op_add (pv 2) (pv 1)) (pe_call G_Draw hr1 (by rfl) m_Draw k_Draw b_Draw .nil pass0 (pa_cons (pv 0) (pa_cons (pe_op op_sub (pe_op op_sub pe_int (pv 1)) (pv 2)) pa_nil)))) pa_nil)))))), ?_⟩
  refine ⟨_, rfl, _, rfl, _, _, rfl, rfl, d, l, 10 - 1, rfl, D, by decide, by decide, fun lo H1 a0 a1 D1 o1 => ?_⟩
  refine ⟨_, rfl, _, rfl, _, rfl, _, _, rfl, rfl, _, rfl, _, rfl, _, _, rfl, rfl, _, rfl, _, _, rfl, rfl, d, l, 10 - 1 - lo, rfl, D1, by omega, by omega, fun x H2 b0 b1 D2 o2 => ⟨_, _, rfl, rfl, by show 2 ≤ sizeLine; decide, fun t ht => ?_⟩⟩
  exact k t lo (lo + 1 + x) _ upd_same ⟨by omega, by omega, by omega⟩ (D2.same (same_new ht _)) (o1.trans (o2.trans (Out.of (same_new ht _))))
theorem nd_Throw1 : (["_law_k", "_law_deal_here", "_law_kinds"] : List Str).Nodup := by decide +kernel
theorem nd_Throw2 : (["_law_k", "_law_deal_here", "_law_kinds"] : List Str).Nodup := by decide +kernel
theorem scThrow : FnScope ["_law_deal_here", "_law_word", "_law_kinds", "_law_low", "_law_high", "_law_name_here", "_law_sums", "_law_mark"] ["_law_deal_here", "_law_word", "_law_kinds"] (defScope sThrow) := ⟨rfl, rfl, rfl, by decide +kernel, rfl, by decide +kernel, by decide +kernel⟩
theorem ok_Throw {f : Addr} {fd : FuncData} (F : Fun K "_law_throw" "_law_throw" sThrow f fd)
    {f_Ends : Addr} {d_Ends : FuncData} (G_Ends : FnOk P w K mg base CX0 2 f_Ends d_Ends ["_law_deal_here", "_law_least"] spEnds1) (b_Ends : Binds K d_Ends ["_law_deal_here", "_law_least"] []) (k_Ends : PySem.W.keepIn K (.ref f_Ends) = true) (m_Ends : mg "_law_ends" = some (.ref f_Ends))
    {f_Name : Addr} {d_Name : FuncData} (G_Name : FnOk P w K mg base CX0 2 f_Name d_Name ["_law_deal_here"] spName) (b_Name : Binds K d_Name ["_law_deal_here"] []) (k_Name : PySem.W.keepIn K (.ref f_Name) = true) (m_Name : mg "_law_name" = some (.ref f_Name))
    {f_Draw : Addr} {d_Draw : FuncData} (G_Draw : FnOk P w K mg base CX0 1 f_Draw d_Draw ["_law_deal_here", "_law_many"] spDraw) (b_Draw : Binds K d_Draw ["_law_deal_here", "_law_many"] []) (k_Draw : PySem.W.keepIn K (.ref f_Draw) = true) (m_Draw : mg "_law_draw" = some (.ref f_Draw))
    {f_Steep : Addr} {d_Steep : FuncData} (G_Steep : FnOk P w K mg base CX0 2 f_Steep d_Steep ["_law_deal_here", "_law_half"] spSteepB) (b_Steep : Binds K d_Steep ["_law_deal_here", "_law_half"] []) (k_Steep : PySem.W.keepIn K (.ref f_Steep) = true) (m_Steep : mg "_law_steepness" = some (.ref f_Steep))
    {f_Sum : Addr} {d_Sum : FuncData} (G_Sum : FnOk P w K mg base CX0 2 f_Sum d_Sum ["_law_deal_here", "_law_kinds"] spSum) (b_Sum : Binds K d_Sum ["_law_deal_here", "_law_kinds"] []) (k_Sum : PySem.W.keepIn K (.ref f_Sum) = true) (m_Sum : mg "_law_sum" = some (.ref f_Sum))
    (m_tuple : mg "tuple" = none) (m_int : mg "int" = none) (m_range : mg "range" = none) :
    FnOk P w K mg base CX0 3 f fd ["_law_deal_here", "_law_word", "_law_kinds"] spThrowF := by
  refine F.ok scThrow (fun vs H Q E h => ?_) (fun cdv A outer s H vs Q E hr h => ?_)
  · obtain ⟨d, l, kn, rfl, _⟩ := h
    rfl
  obtain ⟨d, l, kn, rfl, D, k1, k3, k⟩ := h
  have hu := hu_of hr
  have hr1 : Room 1 _ := hr.mono (by decide)
  have hr2 : Room 2 _ := hr.mono (by decide)
  refine ⟨_, (pss_cons (ps_asg (pe_call G_Ends hr2 (by rfl) m_Ends k_Ends b_Ends .nil pass0 (pa_cons (pv 0) (pa_cons (pe_callTy call_int1 (by rfl) m_int PyProof.Rows.boot_int (pa_cons (pe_cmpR op_eq (pv 1) pe_str (nomark _)) pa_nil)) pa_nil))) (pg_tup rfl (pgs_cons (pg_name (i := 3) scThrow.nd rfl (Or.inl rfl)) (pgs_cons (pg_name (i := 4) scThrow.nd rfl (Or.inl rfl)) pgs_nil))))
    (pss_cons (ps_set (i := 5) scThrow.nd rfl (Or.inl rfl) (pe_call G_Name hr2 (by rfl) m_Name k_Name b_Name .nil pass0 (pa_cons (pv 0) pa_nil)))
    (pss_cons (ps_if (pt_cmpR op_eq (pv 1) pe_str (nomark _)) pss_never pss_nil)
    (pss_cons (ps_if (pt_cmpR op_eq (pv 1) pe_str (nomark _)) pss_never pss_nil)
    (pss_cons (ps_set (i := 6) scThrow.nd rfl (Or.inl rfl) (pe_callTy call_tuple_of (by rfl) m_tuple PyProof.Rows.boot_tuple (pa_cons (pe_comp ["_law_k", "_law_deal_here", "_law_kinds"] [none, some 0, some 2] (pi_range1 (by rfl) m_range (pa_cons (pe_op op_add pe_int (pe_call G_Draw hr1 (by rfl) m_Draw k_Draw b_Draw .nil pass0 (pa_cons (pv 0) (pa_cons pe_int pa_nil)))) pa_nil)) (fun _ _ _ _ => (pg_name (i := 0) (nd_Throw2) rfl (Or.inl rfl))) (fun _ _ _ _ => pf_nil) (fun _ _ _ _ => (pe_call G_Sum hr2 (by rfl) m_Sum k_Sum b_Sum .nil pass0 (pa_cons (pv 1) (pa_cons (pv 2) pa_nil))))) pa_nil)))
    (pss_cons (ps_if (pt_cmpR op_eq (pv 1) pe_str (nomark _)) pss_never pss_nil)
    (pss_cons (ps_set (i := 7) scThrow.nd rfl (Or.inl rfl) (pe_op op_add (pv 3) (pe_call G_Draw hr1 (by rfl) m_Draw k_Draw b_Draw .nil pass0 (pa_cons (pv 0) (pa_cons (pe_op op_add (pe_op op_sub (pv 4) (pv 3)) pe_int) pa_nil)))))
    (pss_one (ps_ret (pe_tup (pa_cons (pv 1) (pa_cons (pv 5) (pa_cons (pv 7) (pa_cons (pe_call G_Steep hr2 (by rfl) m_Steep k_Steep b_Steep .nil pass0 (pa_cons (pv 0) (pa_cons pe_bl pa_nil))) (pa_cons (pe_call G_Steep hr2 (by rfl) m_Steep k_Steep b_Steep .nil pass0 (pa_cons (pv 0) (pa_cons pe_bl pa_nil))) (pa_cons (pv 6) (pa_cons (pv 3) (pa_cons (pv 4) pa_nil)))))))))))))))))), ?_⟩
  refine ⟨_, rfl, _, rfl, rfl, .inr ⟨_, rfl, ?_⟩⟩
  rw [strT]
  refine ⟨d, l, rfl, D, fun r0 lo hi H1 hr0 en D1 o1 => ?_⟩
  have ea := en.a
  have eb := en.b
  have ec := en.c
  refine ⟨r0, _, rfl, SqT.of hr0, rfl, _, _, rfl, _, _, rfl, rfl, ?_⟩
  refine ⟨_, rfl, d, l, rfl, D1, fun x H2 D2 o2 => ?_⟩
  refine ⟨_, rfl, rfl, _, rfl, iteFb (strF ne_il) ?_⟩
  refine ⟨_, rfl, rfl, _, rfl, iteFb (strF ne_if) ?_⟩
  refine ⟨_, rfl, d, l, 4, rfl, D2, by decide, by decide, fun m H3 m0 m1 D3 o3 => ⟨_, _, rfl, rfl, ?_⟩⟩
  refine ⟨1 + m, rfl, by omega, by omega, comp_range (n := (1 + m).toNat) (fun i zs σ H4 => Deal H4 d l ∧ Out d l H3 H4 ∧ (∃ v, σ = [v, some (.ref d), some (.int kn)]) ∧ ∃ wss : List (List Int), Two (SumR H4) zs wss ∧ wss.length = i ∧ ∀ ws ∈ wss, ws.length = kn.toNat ∧ ∀ y ∈ ws, 0 ≤ y ∧ y ≤ 3)
    (small1000 (by omega)) ⟨D3, Out.refl H3, ⟨_, rfl⟩, [], trivial, rfl, fun _ z => nomatch z⟩ (by rintro i zs σ H4 ⟨_, _, _, wss, e, e2, _⟩; rw [e.length]; omega) ?_ ?_⟩
  · rintro i zs σ H4 hi ⟨D4, o4, ⟨v, rfl⟩, wss, tw, hl, hb⟩
    refine ⟨_, rfl, _, rfl, d, l, kn, rfl, D4, k1, k3, fun w ws H5 hw5 lw bw D5 o5 => ⟨D5, o4.trans o5, ⟨_, rfl⟩, wss ++ [ws], Two.append (tw.mono fun _ _ z => z.ts (TS.out D4 o5)) ⟨⟨w, rfl, hw5⟩, trivial⟩, by rw [List.length_append, hl]; rfl, fun v hv => ?_⟩⟩
    rcases List.mem_append.mp hv with z | z
    · exact hb v z
    · have e : v = ws := by simpa using z
      rw [e]
      exact ⟨lw, bw⟩
  · rintro zs σ H4 ⟨D4, o4, _, wss, tw, hl, hb⟩ l5 hl5
    refine ⟨l5, _, rfl, .inl ⟨SqL.of upd_same, fun u hu' => ?_⟩⟩
    have s5 := (same_new hl5 (.lst zs)).trans (same_new hu' (.tup zs))
    have D5 := D4.same s5
    have o5 := o1.trans (o2.trans (o3.trans (o4.trans (Out.of s5))))
    have tw5 : Two (SumR _) zs wss := tw.mono fun _ _ z => z.ts (.of s5)
    have hu5 : upd (upd H4 l5 (.lst zs)) u (.tup zs) u = some (.tup zs) := upd_same
    generalize upd (upd H4 l5 (.lst zs)) u (.tup zs) = H5 at D5 o5 tw5 hu5 ⊢
    refine ⟨_, rfl, rfl, _, rfl, iteFb (strF ne_ic) ?_⟩
    refine ⟨_, rfl, _, rfl, _, rfl, _, rfl, _, _, rfl, rfl, _, _, rfl, rfl, d, l, hi - lo + 1, rfl, D5, by omega, by omega, fun z H6 z0 z1 D6 o6 => ⟨_, _, rfl, rfl, ?_⟩⟩
    refine ⟨_, rfl, _, rfl, _, rfl, _, rfl, d, l, false, rfl, D6, fun sa pa qa H7 hsa sta D7 o7 => ?_⟩
    refine ⟨_, rfl, d, l, true, rfl, D7, fun sb pb qb H8 hsb stb D8 o8 => ?_⟩
    refine ⟨_, rfl, _, rfl, _, rfl, by show 8 ≤ sizeLine; decide, fun t ht => ?_⟩
    have s9 := same_new ht (.tup [.str "first", .str x, .int (lo + z), .ref sa, .ref sb, .ref u, .int lo, .int hi])
    have t9 := (TS.out D5 o6).trans ((TS.out D6 o7).trans ((TS.out D7 o8).trans (TS.of s9)))
    exact k t x (lo + z) sa sb u lo hi wss pa qa pb qb _ upd_same en (by omega) (by omega) ⟨zs, t9 _ _ hu5, tw5.mono fun _ _ z => z.ts t9⟩ ⟨by omega, by omega⟩ hb (s9 _ _ (TS.out D7 o8 _ _ hsa)) sta (s9 _ _ hsb) stb (D8.same s9) (o5.trans (o6.trans (o7.trans (o8.trans (Out.of s9)))))
theorem scTab : FnScope ["_law_shares", "_law_bottom", "_law_first_here", "_law_found", "_law_k", "_law_share"] ["_law_shares", "_law_bottom", "_law_first_here"] (defScope sTab) := ⟨rfl, rfl, rfl, by decide +kernel, rfl, by decide +kernel, by decide +kernel⟩
theorem ok_Tab {f : Addr} {fd : FuncData} (F : Fun K "_law_table" "_law_table" sTab f fd)
    {f_LLow : Addr} {d_LLow : FuncData} (G_LLow : FnOk P w K mg base CX0 1 f_LLow d_LLow ["_law_top", "_law_bottom"] spLow) (b_LLow : Binds K d_LLow ["_law_top", "_law_bottom"] []) (k_LLow : PySem.W.keepIn K (.ref f_LLow) = true) (m_LLow : mg "_law_lowest" = some (.ref f_LLow))
    (m_enumerate : mg "enumerate" = none) (m_tuple : mg "tuple" = none) :
    FnOk P w K mg base CX0 2 f fd ["_law_shares", "_law_bottom", "_law_first_here"] spTabZ := by
  refine F.ok scTab (fun vs H Q E h => ?_) (fun cdv A outer s H vs Q E hr h => ?_)
  · obtain ⟨ls, ss, b, f, rfl, _⟩ := h
    rfl
  obtain ⟨ls, ss, b, f, rfl, hls, hs, hln, b1, b2, k⟩ := h
  have hu := hu_of hr
  have hr1 : Room 1 _ := hr.mono (by decide)
  refine ⟨_, (pss_cons (ps_set (i := 3) scTab.nd rfl (Or.inl rfl) (pe_lst pa_nil))
    (pss_cons (ps_for PassesOwn.never rfl (pi_enum (by rfl) m_enumerate (pa_cons (pv 0) pa_nil)) (pg_tup rfl (pgs_cons (pg_name (i := 4) scTab.nd rfl (Or.inl rfl)) (pgs_cons (pg_name (i := 5) scTab.nd rfl (Or.inl rfl)) pgs_nil)))
    (pss_one (ps_if (pt_cmpR op_gt (pv 5) pe_int (nomark _)) (pss_one (ps_expr (pe_bm PySem.F.plainAttrs_list PySem.F.slot_list_append PySem.F.type_list_append mt_append (pv 3) (pa_cons (pe_tup (pa_cons (pe_op op_add (pv 2) (pv 4)) (pa_cons (pe_call G_LLow hr1 (by rfl) m_LLow k_LLow b_LLow .nil pass0 (pa_cons (pv 5) (pa_cons (pv 1) pa_nil))) pa_nil))) pa_nil)))) pss_nil)))
    (pss_one (ps_ret (pe_callTy call_tuple_of (by rfl) m_tuple PyProof.Rows.boot_tuple (pa_cons (pv 3) pa_nil)))))), ?_⟩
  refine ⟨Nat.zero_le _, fun lf hlf => ?_⟩
  refine ⟨_, rfl, ls, rfl, ⟨_, SqL.of (same_new hlf _ _ _ hls)⟩, for_enumA (K := K) (a := ls) (xs := ss.map V.int) (fun i σ H1 => ∃ us v4 v5, σ = [some (.ref ls), some (.int b), some (.int f), some (.ref lf), v4, v5] ∧ Same H H1 ∧ H1 lf = some (.lst us) ∧ Two (Ent H1) us (tabZ b f (ss.take i)))
    ⟨[], _, _, rfl, same_new hlf _, upd_same, trivial⟩ (by rintro i σ H1 _ ⟨_, _, _, _, e, _⟩; exact SqL.of (e _ _ hls)) ?_ ?_⟩
  · rintro D' i x σ H1 t hx ⟨us, v4, v5, rfl, s1, hf1, tw⟩ ht
    obtain ⟨z, rfl, hz⟩ := ints_at hx
    have hz1 := hs z (List.mem_of_getElem? hz)
    have hi : i < ss.length := (List.getElem?_eq_some_iff.mp hz).1
    have s2 := s1.trans (same_new ht (.tup [.int i, .int z]))
    have hf2 := same_new ht (.tup [.int i, .int z]) _ _ hf1
    have tw2 := tab_ts (.of (same_new ht (.tup [.int i, .int z]))) tw
    have ht2 : upd H1 t (.tup [.int i, .int z]) t = some (.tup [.int i, .int z]) := upd_same
    generalize upd H1 t (.tup [.int i, .int z]) = H2 at s2 hf2 tw2 ht2 ⊢
    refine ⟨t, _, rfl, SqT.of ht2, rfl, _, _, rfl, _, _, rfl, rfl, ?_⟩
    have el : (ss.take i).length = i := by rw [List.length_take]; omega
    refine ⟨_, rfl, _, _, rfl, rfl, _, rfl, ?_⟩
    rw [take_snoc hz, tabZ_snoc, el]
    by_cases zp : 0 < z
    · refine iteP (by simp; omega) ?_
      rw [if_pos zp]
      refine ⟨_, rfl, .inl ⟨rfl, _, SqL.of hf2⟩, ?_⟩
      refine ⟨_, rfl, _, rfl, _, _, rfl, rfl, _, rfl, _, rfl, z, b, rfl, by omega, b1, by omega, fun r hr' => ⟨by show 2 ≤ sizeLine; decide, fun u hu' => ?_⟩⟩
      have hl3 := same_new hu' (.tup [.int (f + i), .ref r]) _ _ (same_new hr' (.tup (lowI z b)) _ _ hf2)
      have hul : us.length ≤ 1000 := by
        have e1 := tw.length
        have e2 := tabZ_len b f (ss.take i)
        rw [el] at e2
        omega
      refine ⟨lf, us, _, rfl, rfl, hl3, small1000 hul, ?_⟩
      have s4 := s2.trans ((same_new hr' (.tup (lowI z b))).trans (same_new hu' (.tup [.int (f + i), .ref r])))
      refine ⟨us ++ [.ref u], _, _, rfl, same_lst s4 hlf, upd_same, ?_⟩
      refine Two.append (tab_ts ((TS.of ((same_new hr' _).trans (same_new hu' _))).trans (TS.lst hl3)) tw2) ⟨⟨u, r, rfl, TS.lst hl3 _ _ upd_same, TS.lst hl3 _ _ (same_new hu' _ _ _ upd_same)⟩, trivial⟩
    · refine iteN (by simp; omega) ?_
      rw [if_neg zp, List.append_nil]
      exact ⟨us, _, _, rfl, s2, hf2, tw2⟩
  · rintro σ H1 ⟨us, v4, v5, rfl, s1, hf1, tw⟩
    rw [List.length_map, List.take_length] at tw
    exact ⟨_, rfl, lf, _, rfl, .inl ⟨SqL.of hf1, fun u hu' => k _ u us (s1.trans (same_new hu' _)) upd_same (tab_ts (.of (same_new hu' _)) tw)⟩⟩
end
end Mine
namespace Mine
open PySem L2
section
variable {P : Program} {w : World} {K : PySem.W.Frag} {mg : Str → Option Value} {base : Heap}
theorem scLPow : FnScope ["_law_number_here", "_law_many", "_law_found", "_law_k"] ["_law_number_here", "_law_many"] (defScope sLPow) := ⟨rfl, rfl, rfl, by decide +kernel, rfl, by decide +kernel, by decide +kernel⟩
theorem ok_LPow {f : Addr} {fd : FuncData} (F : Fun K "_law_power" "_law_power" sLPow f fd)
    (m_range : mg "range" = none) :
    FnOk P w K mg base CX0 1 f fd ["_law_number_here", "_law_many"] spLPow := by
  refine F.ok scLPow (fun vs H Q E h => ?_) (fun cdv A outer s H vs Q E hr h => ?_)
  · obtain ⟨a, n, rfl, _⟩ := h
    rfl
  obtain ⟨a, n, rfl, a0, a9, n0, n1, k⟩ := h
  have hu := hu_of hr
  refine ⟨_, (pss_cons (ps_set (i := 2) scLPow.nd rfl (Or.inl rfl) pe_int)
    (pss_cons (ps_for PassesOwn.never rfl (pi_range1 (by rfl) m_range (pa_cons (pv 1) pa_nil)) (pg_name (i := 3) scLPow.nd rfl (Or.inl rfl))
    (pss_one (ps_set (i := 2) scLPow.nd rfl (Or.inl rfl) (pe_op op_mulB (pv 2) (pv 0)))))
    (pss_one (ps_ret (pv 2))))), ?_⟩
  refine ⟨_, rfl, _, rfl, by omega, by omega, for_rangeA (n := n.toNat) (fun i σ H1 => H1 = H ∧ ∃ v, σ = [some (.int a), some (.int n), some (.int (a ^ i)), v])
    ⟨rfl, none, by rw [Int.pow_zero]; rfl⟩ ?_ ?_⟩
  · rintro D' i σ H1 hi ⟨rfl, v, rfl⟩
    have e1 := pow9 (n := i) a0 a9 (by omega)
    refine ⟨_, rfl, _, rfl, _, _, rfl, rfl, ⟨⟨by omega, by omega⟩, ⟨by omega, by omega⟩⟩, ?_⟩
    refine ⟨rfl, some (.int (0 + (i : Int))), ?_⟩
    rw [Int.pow_succ]
    rfl
  · rintro σ H1 ⟨rfl, v, rfl⟩
    exact ⟨_, rfl, k⟩
theorem scLLow : FnScope ["_law_top", "_law_bottom", "_law_one", "_law_other"] ["_law_top", "_law_bottom"] (defScope sLLow) := ⟨rfl, rfl, rfl, by decide +kernel, rfl, by decide +kernel, by decide +kernel⟩
theorem ok_LLow {f : Addr} {fd : FuncData} (F : Fun K "_law_lowest" "_law_lowest" sLLow f fd)
     :
    FnOk P w K mg base CX0 1 f fd ["_law_top", "_law_bottom"] spLow := by
  refine F.ok scLLow (fun vs H Q E h => ?_) (fun cdv A outer s H vs Q E hr h => ?_)
  · obtain ⟨a, b, rfl, _⟩ := h
    rfl
  obtain ⟨a, b, rfl, ha, hb, hz, k⟩ := h
  have hu := hu_of hr
  refine ⟨_, (pss_cons (ps_par (i := 2) (j := 3) rfl scLLow.nd rfl rfl (by decide) rfl rfl (pa_cons (pv 0) (pa_cons (pv 1) pa_nil)) rfl)
    (pss_cons (ps_while PassesOwn.never (pt_cmpR op_gt (pv 3) pe_int (nomark _))
    (pss_one (ps_par (i := 2) (j := 3) rfl scLLow.nd rfl rfl (by decide) rfl rfl (pa_cons (pv 3) (pa_cons (pe_op op_mod (pv 2) (pv 3)) pa_nil)) rfl)))
    (pss_one (ps_ret (pe_tup (pa_cons (pe_op op_fdivC (pv 0) (pv 2)) (pa_cons (pe_op op_fdivC (pv 1) (pv 2)) pa_nil))))))), ?_⟩
  have g0 : 0 < gI a b := gI_pos hb
  have g1 : gI a b < 2 ^ 200 * 2 ^ 200 := Int.lt_of_le_of_lt (gI_le hb) hz
  refine ⟨_, rfl, _, rfl, _, _, rfl, ?_⟩
  refine ⟨fun j σ H1 => H1 = H ∧ ∃ (x y : Int), σ = [some (.int a), some (.int b), some (.int x), some (.int y)] ∧ 0 ≤ x ∧ 0 ≤ y ∧ gI x y = gI a b ∧ j = y.toNat, ⟨_, rfl, a, b, rfl, ha, by omega, rfl, rfl⟩, ?_⟩
  rintro j σ H1 ⟨rfl, x, y, rfl, hx, hy, hg, rfl⟩
  refine ⟨_, rfl, _, _, rfl, rfl, _, rfl, ?_⟩
  refine ite2 (fun c => ?_) (fun c => ?_)
  · have yp : 0 < y := of_decide_eq_true c
    refine ⟨fun σ' H' => H' = H1 ∧ σ' = [some (.int a), some (.int b), some (.int y), some (.int (x % y))], fun σ' H' ⟨e1, e2⟩ => ⟨(x % y).toNat, ?_, e1, y, x % y, e2, hy, Int.emod_nonneg _ (by omega), (step_gcd hx yp).trans hg, rfl⟩, ?_⟩
    · have := Int.emod_lt_of_pos x yp
      have := Int.emod_nonneg x (show y ≠ 0 by omega)
      omega
    · exact ⟨_, rfl, _, rfl, _, rfl, _, _, rfl, rfl, yp, _, _, rfl, rfl, rfl⟩
  · have y0 : y = 0 := by
      have : ¬ 0 < y := fun z => c (decide_eq_true z)
      omega
    subst y0
    rw [gcd_end hx] at hg
    subst hg
    exact ⟨_, rfl, _, rfl, _, _, rfl, rfl, ⟨g0, g1⟩, _, rfl, _, rfl, _, _, rfl, rfl, ⟨g0, g1⟩, by show 2 ≤ sizeLine; decide, fun p hp => k p hp⟩
theorem scRungs : FnScope ["_law_steepness_here", "_law_n", "_law_low", "_law_high", "_law_p", "_law_q", "_law_wide", "_law_found", "_law_y", "_law_far", "_law_share"] ["_law_steepness_here", "_law_n", "_law_low", "_law_high"] (defScope sRungs) := ⟨rfl, rfl, rfl, by decide +kernel, rfl, by decide +kernel, by decide +kernel⟩
theorem ok_Rungs {f : Addr} {fd : FuncData} (F : Fun K "_law_rungs" "_law_rungs" sRungs f fd)
    {f_LPow : Addr} {d_LPow : FuncData} (G_LPow : FnOk P w K mg base CX0 1 f_LPow d_LPow ["_law_number_here", "_law_many"] spLPow) (b_LPow : Binds K d_LPow ["_law_number_here", "_law_many"] []) (k_LPow : PySem.W.keepIn K (.ref f_LPow) = true) (m_LPow : mg "_law_power" = some (.ref f_LPow))
    (m_range : mg "range" = none) (m_max : mg "max" = none) (m_int : mg "int" = none) :
    FnOk P w K mg base CX0 2 f fd ["_law_steepness_here", "_law_n", "_law_low", "_law_high"] spRungs := by
  refine F.ok scRungs (fun vs H Q E h => ?_) (fun cdv A outer s H vs Q E hr h => ?_)
  · obtain ⟨st, p, q, n, lo, hi, rfl, _⟩ := h
    rfl
  obtain ⟨st, p, q, n, lo, hi, rfl, hst, hs, en, n0, n1, k⟩ := h
  have hu := hu_of hr
  have hr1 : Room 1 _ := hr.mono (by decide)
  refine ⟨_, (pss_cons (ps_asg (pv 0) (pg_tup rfl (pgs_cons (pg_name (i := 4) scRungs.nd rfl (Or.inl rfl)) (pgs_cons (pg_name (i := 5) scRungs.nd rfl (Or.inl rfl)) pgs_nil))))
    (pss_cons (ps_if (pt_cmpR op_eq (pv 2) (pv 3) (nomark _)) (pss_one (ps_ret (pe_tup (pa_cons (pe_lst (pa_cons pe_int pa_nil)) (pa_cons pe_int pa_nil))))) pss_nil)
    (pss_cons (ps_set (i := 6) scRungs.nd rfl (Or.inl rfl) (pe_op op_sub (pv 3) (pv 2)))
    (pss_cons (ps_set (i := 7) scRungs.nd rfl (Or.inl rfl) (pe_lst pa_nil))
    (pss_cons (ps_for PassesOwn.never rfl (pi_range2 (by rfl) m_range (pa_cons (pv 2) (pa_cons (pe_op op_add (pv 3) pe_int) pa_nil))) (pg_name (i := 8) scRungs.nd rfl (Or.inl rfl))
    (pss_cons (ps_set (i := 9) scRungs.nd rfl (Or.inl rfl) (pe_callB (call_max2 rfl) (by rfl) m_max PyProof.Rows.boot_max (pa_cons (pe_op op_sub (pv 8) (pv 1)) (pa_cons (pe_op op_sub (pv 1) (pv 8)) pa_nil))))
    (pss_cons (ps_set (i := 10) scRungs.nd rfl (Or.inl rfl) (pe_op op_mulB (pe_call G_LPow hr1 (by rfl) m_LPow k_LPow b_LPow .nil pass0 (pa_cons (pv 4) (pa_cons (pv 9) pa_nil))) (pe_call G_LPow hr1 (by rfl) m_LPow k_LPow b_LPow .nil pass0 (pa_cons (pv 5) (pa_cons (pe_op op_sub (pv 6) (pv 9)) pa_nil)))))
    (pss_one (ps_expr (pe_bm PySem.F.plainAttrs_list PySem.F.slot_list_append PySem.F.type_list_append mt_append (pv 7) (pa_cons (pe_op op_mulB (pv 10) (pe_ix ix_list (pe_lst (pa_cons (pe_op op_sub (pv 5) (pv 4)) (pa_cons (pv 5) pa_nil))) (pe_callTy call_int1 (by rfl) m_int PyProof.Rows.boot_int (pa_cons (pe_or (pe_cmpR op_eq (pv 8) (pv 2) (nomark _)) (pe_one (pe_cmpR op_eq (pv 8) (pv 3) (nomark _)))) pa_nil)) (fun _ _ => rfl))) pa_nil)))))))
    (pss_one (ps_ret (pe_tup (pa_cons (pv 7) (pa_cons (pe_op op_mulB (pe_op op_add (pv 5) (pv 4)) (pe_call G_LPow hr1 (by rfl) m_LPow k_LPow b_LPow .nil pass0 (pa_cons (pv 5) (pa_cons (pv 6) pa_nil)))) pa_nil)))))))))), ?_⟩
  obtain ⟨a1, a2, a3⟩ := id en
  obtain ⟨p1, pq, q9⟩ := id hs
  refine ⟨_, rfl, st, _, rfl, SqT.of hst, rfl, _, _, rfl, _, _, rfl, rfl, ?_⟩
  refine ⟨_, rfl, _, rfl, rfl, _, rfl, ?_⟩
  by_cases c : lo = hi
  · refine iteP (by simp [c]) ?_
    refine ⟨by show 1 ≤ sizeLine; decide, fun l1 hl1 => ⟨by show 2 ≤ sizeLine; decide, fun t ht => ?_⟩⟩
    refine k _ t l1 ((same_new hl1 _).trans (same_new ht _)) ?_ ?_
    · unfold botI; rw [if_pos c]; exact upd_same
    · unfold sharesI; rw [if_pos c]; exact same_new ht _ _ _ upd_same
  refine iteN (by simp [c]) ?_
  refine ⟨_, rfl, _, rfl, _, _, rfl, rfl, ?_⟩
  refine ⟨Nat.zero_le _, fun ls hls => ?_⟩
  refine ⟨_, rfl, _, rfl, _, _, rfl, rfl, _, _, rfl, ⟨by omega, by omega, by omega, by omega⟩, for_rangeA (n := (hi + 1 - lo).toNat) (fun i σ H1 => ∃ v8 v9 v10, σ = [some (.ref st), some (.int n), some (.int lo), some (.int hi), some (.int p), some (.int q), some (.int (hi - lo)), some (.ref ls), v8, v9, v10] ∧ Same H H1 ∧ H1 ls = some (.lst (((rangeI lo i).map (lawSh p q lo hi n)).map V.int)))
    ⟨_, _, _, rfl, same_new hls _, upd_same⟩ ?_ ?_⟩
  · rintro D' i σ H1 hi' ⟨v8, v9, v10, rfl, s1, hl1⟩
    obtain ⟨f, hf⟩ : ∃ f : Nat, (lo + (i : Int) - n).natAbs = f := ⟨_, rfl⟩
    have ef : (if n - (lo + (i : Int)) > lo + (i : Int) - n then n - (lo + (i : Int)) else lo + (i : Int) - n) = (f : Int) := by split <;> omega
    refine ⟨_, rfl, _, rfl, _, _, rfl, rfl, _, rfl, _, rfl, _, _, rfl, rfl, _, _, rfl, ?_⟩
    rw [ef]
    have e1 := pow9 (a := p) (n := f) (by omega) (by omega) (by omega)
    have e2 := pow9 (a := q) (n := (hi - lo - (f : Int)).toNat) (by omega) (by omega) (by omega)
    refine ⟨_, rfl, _, rfl, p, f, rfl, by omega, by omega, by omega, by omega, ?_⟩
    refine ⟨_, rfl, _, rfl, _, rfl, _, _, rfl, rfl, q, hi - lo - (f : Int), rfl, by omega, by omega, by omega, by omega, ?_⟩
    rw [Int.toNat_natCast]
    refine ⟨_, _, rfl, rfl, ⟨⟨by omega, by omega⟩, ⟨by omega, by omega⟩⟩, ?_⟩
    have m1 := mul_bd e1.1 e1.2 e2.1 e2.2
    refine ⟨_, rfl, .inl ⟨rfl, _, SqL.of hl1⟩, ?_⟩
    refine ⟨_, rfl, _, rfl, _, rfl, _, _, rfl, rfl, _, rfl, by show 2 ≤ sizeLine; decide, fun p2 hp2 => ?_⟩
    have hl2 := same_new hp2 (.lst [.int (q - p), .int q]) _ _ hl1
    have s2 := s1.trans (same_new hp2 (.lst [.int (q - p), .int q]))
    have hp3 : upd H1 p2 (.lst [.int (q - p), .int q]) p2 = some (.lst [.int (q - p), .int q]) := upd_same
    generalize upd H1 p2 (.lst [.int (q - p), .int q]) = H2 at hl2 s2 hp3 ⊢
    have fin : ∀ cc : Int, cc = (if lo + (i : Int) = lo ∨ lo + (i : Int) = hi then q else q - p) → ∃ v8 v9 v10, [some (V.ref st), some (.int n), some (.int lo), some (.int hi), some (.int p), some (.int q), some (.int (hi - lo)), some (.ref ls), some (.int (lo + i)), some (.int f), some (.int (p ^ f * q ^ (hi - lo - (f : Int)).toNat))] = [some (V.ref st), some (.int n), some (.int lo), some (.int hi), some (.int p), some (.int q), some (.int (hi - lo)), some (.ref ls), v8, v9, v10] ∧ Same H (upd H2 ls (.lst (((rangeI lo i).map (lawSh p q lo hi n)).map V.int ++ [.int (p ^ f * q ^ (hi - lo - (f : Int)).toNat * cc)]))) ∧
        upd H2 ls (.lst (((rangeI lo i).map (lawSh p q lo hi n)).map V.int ++ [.int (p ^ f * q ^ (hi - lo - (f : Int)).toNat * cc)])) ls = some (.lst (((rangeI lo (i + 1)).map (lawSh p q lo hi n)).map V.int)) := by
      intro cc hcc
      refine ⟨_, _, _, rfl, same_lst s2 hls, ?_⟩
      rw [upd_same, rangeI_succ, List.map_append, List.map_append]
      subst hcc
      unfold lawSh
      simp only [List.map_cons, List.map_nil, hf]
    have bq : Below (p ^ f * q ^ (hi - lo - (f : Int)).toNat) := ⟨by omega, by omega⟩
    have hlen : (((rangeI lo i).map (lawSh p q lo hi n)).map V.int).length < sizeLine := by rw [List.length_map, List.length_map, rangeI_len]; exact small1000 (by omega)
    refine ⟨_, rfl, _, rfl, rfl, _, rfl, ?_⟩
    by_cases d1 : lo + (i : Int) = lo
    · refine iteP (by simp; omega) ?_
      refine .inr ⟨_, rfl, p2, _, _, _, rfl, rfl, SqL.of hp3, rfl, _, _, rfl, rfl, ⟨bq, ⟨by omega, by omega⟩⟩, ls, _, _, rfl, rfl, hl2, hlen, ?_⟩
      exact fin q (by rw [if_pos (Or.inl d1)])
    · refine iteN (by simp; omega) ?_
      refine ⟨_, rfl, _, rfl, rfl, .inr ⟨_, rfl, ?_⟩⟩
      by_cases d2 : lo + (i : Int) = hi
      · have ed : decide (V.int (lo + (i : Int)) = V.int hi) = true := by simp [d2]
        rw [ed]
        refine ⟨p2, _, _, _, rfl, rfl, SqL.of hp3, rfl, _, _, rfl, rfl, ⟨bq, ⟨by omega, by omega⟩⟩, ls, _, _, rfl, rfl, hl2, hlen, ?_⟩
        exact fin q (by rw [if_pos (Or.inr d2)])
      · have ed : decide (V.int (lo + (i : Int)) = V.int hi) = false := by simp [d2]
        rw [ed]
        refine ⟨p2, _, _, _, rfl, rfl, SqL.of hp3, rfl, _, _, rfl, rfl, ⟨bq, ⟨by omega, by omega⟩⟩, ls, _, _, rfl, rfl, hl2, hlen, ?_⟩
        exact fin (q - p) (by rw [if_neg (by omega)])
  · rintro σ H1 ⟨v8, v9, v10, rfl, s1, hl1⟩
    have e2 := pow9 (a := q) (n := (hi - lo).toNat) (by omega) (by omega) (by omega)
    refine ⟨_, rfl, _, rfl, _, rfl, _, _, rfl, rfl, _, rfl, _, rfl, q, hi - lo, rfl, by omega, by omega, by omega, by omega, _, _, rfl, rfl, ⟨⟨by omega, by omega⟩, ⟨by omega, by omega⟩⟩, by show 2 ≤ sizeLine; decide, fun t ht => ?_⟩
    refine k _ t ls (s1.trans (same_new ht _)) ?_ ?_
    · unfold botI shD; rw [if_neg c]; exact upd_same
    · unfold sharesI; rw [if_neg c]; exact same_new ht _ _ _ hl1
end
end Mine
namespace Mine
open PySem L2
section
variable {P : Program} {w : World} {K : PySem.W.Frag} {mg : Str → Option Value} {base : Heap}
theorem nd_LFirst1 : (["_law_weights", "_law_crowd_here", "_law_low", "_law_high"] : List Str).Nodup := by decide +kernel
theorem nd_LFirst2 : (["_law_n", "_law_b", "_law_low", "_law_high"] : List Str).Nodup := by decide +kernel
theorem scLFirst : FnScope ["_law_row", "_law_crowd_here", "_law_word", "_law_name_here", "_law_mark", "_law_a", "_law_b", "_law_sums", "_law_low", "_law_high", "_law_numbers", "_law_marks", "_law_bottom", "_law_asked", "_law_found", "_law_under_all", "_law_shares", "_law_under", "_law_m", "_law_share", "_law_left", "_law_rest", "_law_k"] ["_law_row", "_law_crowd_here"] (defScope sLFirst) := ⟨rfl, rfl, rfl, by decide +kernel, rfl, by decide +kernel, by decide +kernel⟩
theorem ok_LFirst {f : Addr} {fd : FuncData} (F : Fun K "_law_first" "_law_first" sLFirst f fd)
    {f_Rungs : Addr} {d_Rungs : FuncData} (G_Rungs : FnOk P w K mg base CX0 2 f_Rungs d_Rungs ["_law_steepness_here", "_law_n", "_law_low", "_law_high"] spRungs) (b_Rungs : Binds K d_Rungs ["_law_steepness_here", "_law_n", "_law_low", "_law_high"] []) (k_Rungs : PySem.W.keepIn K (.ref f_Rungs) = true) (m_Rungs : mg "_law_rungs" = some (.ref f_Rungs))
    {f_LNum : Addr} {d_LNum : FuncData} (G_LNum : FnOk P w K mg base CX0 1 f_LNum d_LNum ["_law_weights", "_law_crowd_here", "_law_low", "_law_high"] spLNum) (b_LNum : Binds K d_LNum ["_law_weights", "_law_crowd_here", "_law_low", "_law_high"] []) (k_LNum : PySem.W.keepIn K (.ref f_LNum) = true) (m_LNum : mg "_law_number" = some (.ref f_LNum))
    (m_enumerate : mg "enumerate" = none) (m_len : mg "len" = none) (m_sum : mg "sum" = none) :
    FnOk P w K mg base CX0 3 f fd ["_law_row", "_law_crowd_here"] spLFirst := by
  refine F.ok scLFirst (fun vs H Q E h => ?_) (fun cdv A outer s H vs Q E hr h => ?_)
  · obtain ⟨r, c, x, mk, sa, sb, sm, lo, hi, wss, cs, pa, qa, pb, qb, rfl, _⟩ := h
    rfl
  obtain ⟨r, c, x, mk, sa, sb, sm, lo, hi, wss, cs, pa, qa, pb, qb, rfl, FA, k⟩ := h
  have hu := hu_of hr
  have hr1 : Room 1 _ := hr.mono (by decide)
  have hr2 : Room 2 _ := hr.mono (by decide)
  refine ⟨_, (pss_cons (ps_asg (pv 0) (pg_tup rfl (pgs_cons (pg_name (i := 2) scLFirst.nd rfl (Or.inl rfl)) (pgs_cons (pg_name (i := 3) scLFirst.nd rfl (Or.inl rfl)) (pgs_cons (pg_name (i := 4) scLFirst.nd rfl (Or.inl rfl)) (pgs_cons (pg_name (i := 5) scLFirst.nd rfl (Or.inl rfl)) (pgs_cons (pg_name (i := 6) scLFirst.nd rfl (Or.inr rfl)) (pgs_cons (pg_name (i := 7) scLFirst.nd rfl (Or.inl rfl)) (pgs_cons (pg_name (i := 8) scLFirst.nd rfl (Or.inr rfl)) (pgs_cons (pg_name (i := 9) scLFirst.nd rfl (Or.inr rfl)) pgs_nil))))))))))
    (pss_cons (ps_setC ["_law_weights", "_law_crowd_here", "_law_low", "_law_high"] [none, some 1, some 8, some 9] (i := 10) scLFirst.nd rfl (Or.inl rfl) (pi_tup (pv 7)) (fun _ _ _ _ => (pg_name (i := 0) (nd_LFirst1) rfl (Or.inl rfl))) (fun _ _ _ _ => pf_nil) (fun _ _ _ _ => (pe_call G_LNum hr1 (by rfl) m_LNum k_LNum b_LNum .nil pass0 (pa_cons (pv 0) (pa_cons (pv 1) (pa_cons (pv 2) (pa_cons (pe_op op_sub (pv 3) pe_int) pa_nil)))))))
    (pss_cons (ps_asg (pe_call G_Rungs hr2 (by rfl) m_Rungs k_Rungs b_Rungs .nil pass0 (pa_cons (pv 5) (pa_cons (pv 4) (pa_cons (pv 8) (pa_cons (pv 9) pa_nil))))) (pg_tup rfl (pgs_cons (pg_name (i := 11) scLFirst.nd rfl (Or.inl rfl)) (pgs_cons (pg_name (i := 12) scLFirst.nd rfl (Or.inl rfl)) pgs_nil))))
    (pss_cons (ps_setC ["_law_n", "_law_b", "_law_low", "_law_high"] [none, some 6, some 8, some 9] (i := 13) scLFirst.nd rfl (Or.inl rfl) (pi_list (pv 10)) (fun _ _ _ _ => (pg_name (i := 0) (nd_LFirst2) rfl (Or.inl rfl))) (fun _ _ _ _ => pf_nil) (fun _ _ _ _ => (pe_call G_Rungs hr2 (by rfl) m_Rungs k_Rungs b_Rungs .nil pass0 (pa_cons (pv 1) (pa_cons (pv 0) (pa_cons (pv 2) (pa_cons (pe_op op_sub (pv 3) pe_int) pa_nil)))))))
    (pss_cons (ps_set (i := 14) scLFirst.nd rfl (Or.inl rfl) (pe_op op_rep (pe_lst (pa_cons pe_int pa_nil)) (pe_op op_add (pe_callB call_len_seq (by rfl) m_len PySem.boot_len (pa_cons (pv 7) pa_nil)) pe_int)))
    (pss_cons (ps_set (i := 15) scLFirst.nd rfl (Or.inl rfl) (pv 12))
    (pss_cons (ps_for PassesOwn.never rfl (pi_list (pv 13)) (pg_tup rfl (pgs_cons (pg_name (i := 16) scLFirst.nd rfl (Or.inl rfl)) (pgs_cons (pg_name (i := 17) scLFirst.nd rfl (Or.inl rfl)) pgs_nil)))
    (pss_one (ps_set (i := 15) scLFirst.nd rfl (Or.inl rfl) (pe_op op_mulB (pv 15) (pv 17)))))
    (pss_cons (ps_for PassesOwn.never rfl (pi_enum (by rfl) m_enumerate (pa_cons (pv 11) pa_nil)) (pg_tup rfl (pgs_cons (pg_name (i := 18) scLFirst.nd rfl (Or.inl rfl)) (pgs_cons (pg_name (i := 19) scLFirst.nd rfl (Or.inl rfl)) pgs_nil)))
    (pss_cons (ps_set (i := 20) scLFirst.nd rfl (Or.inl rfl) (pv 19))
    (pss_cons (ps_set (i := 21) scLFirst.nd rfl (Or.inl rfl) (pe_op op_fdivB (pv 15) (pv 12)))
    (pss_cons (ps_for PassesOwn.never rfl (pi_enum (by rfl) m_enumerate (pa_cons (pv 13) pa_nil)) (pg_tup rfl (pgs_cons (pg_name (i := 22) scLFirst.nd rfl (Or.inl rfl)) (pgs_cons (pg_tup rfl (pgs_cons (pg_name (i := 16) scLFirst.nd rfl (Or.inl rfl)) (pgs_cons (pg_name (i := 17) scLFirst.nd rfl (Or.inl rfl)) pgs_nil))) pgs_nil)))
    (pss_cons (ps_set (i := 21) scLFirst.nd rfl (Or.inl rfl) (pe_op op_fdivB (pv 21) (pv 17)))
    (pss_cons (ps_augS (pv 14) (pv 22) get_list (pe_op op_mulB (pe_op op_mulB (pv 20) (pe_callB call_sum (by rfl) m_sum PyProof.Rows.boot_sum (pa_cons (pe_slice sl_list (pv 16) (po_some (pv 18)) po_none) pa_nil))) (pv 21)) ip_add set_list)
    (pss_one (ps_set (i := 20) scLFirst.nd rfl (Or.inl rfl) (pe_op op_mulB (pv 20) (pe_callB call_sum (by rfl) m_sum PyProof.Rows.boot_sum (pa_cons (pe_slice sl_list (pv 16) po_none (po_some (pv 18))) pa_nil))))))))
    (pss_one (ps_augS (pv 14) (pe_callB call_len_seq (by rfl) m_len PySem.boot_len (pa_cons (pv 7) pa_nil)) get_list (pv 20) ip_add set_list))))))
    (pss_one (ps_ret (pe_tup (pa_cons (pv 14) (pa_cons (pv 15) pa_nil))))))))))))), ?_⟩
  obtain ⟨hw, so, hcs, few, hsa, hsb, F⟩ := id FA
  have ea := F.en.a
  have eb := F.en.b
  have ec := F.en.c
  have fa := few.a
  have fb := few.b
  refine ⟨_, rfl, r, _, rfl, SqT.of hw, rfl, _, _, rfl, _, _, rfl, _, _, rfl, _, _, rfl, _, _, rfl, _, _, rfl, _, _, rfl, _, _, rfl, rfl, ?_⟩
  obtain ⟨us, hsm, tw⟩ := id so
  have ul := tw.length
  have nl : (numsI wss cs lo (hi - 1)).length = wss.length := by unfold numsI; rw [List.length_map]
  refine ⟨_, rfl, sm, rfl, ⟨_, SqT.of hsm⟩, comp_tup (xs := us) (fun i zs σ H2 => Same H H2 ∧ (∃ v, σ = [v, some (.ref c), some (.int lo), some (.int hi)]) ∧ zs = ((numsI wss cs lo (hi - 1)).take i).map V.int)
    (small1000 (by omega)) ⟨Same.refl _, ⟨_, rfl⟩, rfl⟩ (by rintro i zs σ H2 ⟨_, _, e⟩; rw [e, List.length_map, List.length_take]; omega) (by rintro i zs σ H2 _ ⟨e, _⟩; exact SqT.of (e _ _ hsm)) ?_ ?_⟩
  · rintro i y zs σ H2 hy ⟨s2, ⟨v, rfl⟩, rfl⟩
    obtain ⟨ws, hws, a, rfl, hia⟩ := tw.at hy
    refine ⟨_, rfl, _, rfl, _, rfl, _, rfl, _, _, rfl, rfl, a, c, ws, cs, lo, hi - 1, rfl, s2 _ _ hia, s2 _ _ hcs, few.w ws (List.mem_of_getElem? hws), fun H3 s3 => ⟨s2.trans s3, ⟨_, rfl⟩, ?_⟩⟩
    rw [take_snoc (nums_at hws), List.map_append]
    rfl
  rintro zs σ H2 ⟨s2, _, rfl⟩ l2 hl2
  have e2 : (numsI wss cs lo (hi - 1)).take us.length = numsI wss cs lo (hi - 1) := by rw [ul, ← nl, List.take_length]
  rw [e2]
  generalize hns : numsI wss cs lo (hi - 1) = ns at F nl k ⊢
  have s3 := s2.trans (same_new hl2 (.lst (ns.map V.int)))
  have hn3 : upd H2 l2 (.lst (ns.map V.int)) l2 = some (.lst (ns.map V.int)) := upd_same
  generalize upd H2 l2 (.lst (ns.map V.int)) = H3 at s3 hn3 ⊢
  refine ⟨_, rfl, _, rfl, _, rfl, _, rfl, sa, pa, qa, mk, lo, hi, rfl, s3 _ _ hsa, F.sa, ⟨ea, by omega, ec⟩, F.m0, F.m1, fun H4 tm lm s4 htm hlm => ?_⟩
  refine ⟨tm, _, rfl, SqT.of htm, rfl, _, _, rfl, _, _, rfl, rfl, ?_⟩
  have l4 := F.l4
  refine ⟨_, rfl, l2, rfl, ⟨_, SqL.of (s4 _ _ hn3)⟩, comp_list (xs := ns.map V.int) (fun i zs σ H5 => Same H4 H5 ∧ (∃ v, σ = [v, some (.ref sb), some (.int lo), some (.int hi)]) ∧ Two (RungR pb qb lo (hi - 1) H5) zs (ns.take i))
    (by rw [List.length_map]; exact small1000 (by omega)) ⟨Same.refl _, ⟨_, rfl⟩, trivial⟩ (by rintro i zs σ H5 ⟨_, _, e⟩; rw [e.length, List.length_take]; omega) (by rintro i zs σ H5 _ ⟨e, _⟩; exact SqL.of (e _ _ (s4 _ _ hn3))) ?_ ?_⟩
  · rintro i y zs σ H5 hy ⟨s5, ⟨v, rfl⟩, tw5⟩
    obtain ⟨n, rfl, hn⟩ := ints_at hy
    have nn := F.nn n (List.mem_of_getElem? hn)
    refine ⟨_, rfl, _, rfl, _, rfl, _, rfl, _, _, rfl, rfl, sb, pb, qb, n, lo, hi - 1, rfl, s5 _ _ (s4 _ _ (s3 _ _ hsb)), F.sb, ⟨ea, by omega, by omega⟩, nn.1, nn.2, fun H6 t6 l6 s6 ht6 hl6 => ⟨s5.trans s6, ⟨_, rfl⟩, ?_⟩⟩
    rw [take_snoc hn]
    exact Two.append (tw5.mono fun _ _ z => z.same s6) ⟨⟨t6, l6, rfl, ht6, hl6⟩, trivial⟩
  rintro zs σ H5 ⟨s5, _, tw5⟩ la hla
  rw [List.length_map, List.take_length] at tw5
  have s6 := s5.trans (same_new hla (.lst zs))
  have hla6 : upd H5 la (.lst zs) la = some (.lst zs) := upd_same
  have tw6 : Two (RungR pb qb lo (hi - 1) (upd H5 la (.lst zs))) zs ns := tw5.mono fun _ _ z => z.same (same_new hla _)
  generalize upd H5 la (.lst zs) = H6 at s6 hla6 tw6 ⊢
  have g6 := s3.trans (s4.trans s6)
  have hlm6 := s6 _ _ hlm
  refine ⟨by show 1 ≤ sizeLine; decide, fun l0 hl0 => ?_⟩
  have s7 := same_new hl0 (.lst [.int 0])
  have hl07 : upd H6 l0 (.lst [.int 0]) l0 = some (.lst [.int 0]) := upd_same
  generalize upd H6 l0 (.lst [.int 0]) = H7 at s7 hl07 ⊢
  refine ⟨_, rfl, sm, _, rfl, .inr (SqT.of (s7 _ _ (g6 _ _ hsm))), _, _, rfl, rfl, ?_⟩
  refine ⟨l0, _, [.int 0], rfl, rfl, hl07, by omega, by omega, Nat.le_of_lt (small1000 (by show 1 * _ ≤ 1000; omega)), fun lf hlf => ?_⟩
  rw [rep_zero 0]
  have em : ((us.length : Int) + 1).toNat = ns.length + 1 := by omega
  rw [em]
  have hlf6 : H6 lf = none := by
    cases q : H6 lf with
    | none => rfl
    | some o => rw [s7 _ _ q] at hlf; cases hlf
  have s8 : Same H6 (upd H7 lf (.lst (((rangeI 0 (ns.length + 1)).map fun _ => (0 : Int)).map V.int))) := s7.trans (same_new hlf _)
  have hlf8 : upd H7 lf (.lst (((rangeI 0 (ns.length + 1)).map fun _ => (0 : Int)).map V.int)) lf = some (.lst (((rangeI 0 (ns.length + 1)).map fun _ => (0 : Int)).map V.int)) := upd_same
  generalize upd H7 lf (.lst (((rangeI 0 (ns.length + 1)).map fun _ => (0 : Int)).map V.int)) = H8 at s8 hlf8 ⊢
  refine ⟨_, rfl, ?_⟩
  have b34 := bot34 F.sa ea (show lo ≤ hi by omega) ec
  have u34 := bot34 (lo := lo) (hi := hi - 1) F.sb ea (by omega) (by omega)
  have wb := wF_bd F.sa F.sb F.en F.l4
  have zl := tw6.length
  refine ⟨_, rfl, la, rfl, ⟨_, SqL.of (s8 _ _ hla6)⟩, for_listA (K := K) (a := la) (xs := zs) (fun i σ Hi => Hi = H8 ∧ ∃ v16 v17, σ = [some (.ref r), some (.ref c), some (.str "first"), some (.str x), some (.int mk), some (.ref sa), some (.ref sb), some (.ref sm), some (.int lo), some (.int hi), some (.ref l2), some (.ref lm), some (.int (botI pa qa lo hi)), some (.ref la), some (.ref lf), some (.int (botI pa qa lo hi * botI pb qb lo (hi - 1) ^ i)), v16, v17, none, none, none, none, none])
    ⟨rfl, none, none, by rw [Int.pow_zero, Int.mul_one]; rfl⟩ (by rintro i σ Hi _ ⟨e, _⟩; rw [e]; exact SqL.of (s8 _ _ hla6)) ?_ ?_⟩
  · rintro D' i v σ Hi hv ⟨rfl, v16, v17, rfl⟩
    obtain ⟨n, hn, t, ls, rfl, ht, hls⟩ := tw6.at hv
    have hin : i < ns.length := (List.getElem?_eq_some_iff.mp hn).1
    have p4 := pow4 u34.1 u34.2 i (by omega)
    have mb := mul_bd (a := botI pa qa lo hi) (b := botI pb qb lo (hi - 1) ^ i) (m := 34) (n := 136) (by omega) b34.2 (by omega) p4.2
    refine ⟨t, _, rfl, SqT.of (s8 _ _ ht), rfl, _, _, rfl, _, _, rfl, rfl, ?_⟩
    refine ⟨_, rfl, _, rfl, _, _, rfl, rfl, ⟨⟨by omega, by omega⟩, ⟨by omega, by omega⟩⟩, ?_⟩
    have e : botI pa qa lo hi * botI pb qb lo (hi - 1) ^ (i + 1) = botI pa qa lo hi * botI pb qb lo (hi - 1) ^ i * botI pb qb lo (hi - 1) := by rw [Int.pow_succ, Int.mul_assoc]
    exact ⟨rfl, some (.ref ls), some (.int (botI pb qb lo (hi - 1))), by rw [e]; rfl⟩
  rintro σ Hi ⟨rfl, v16, v17, rfl⟩
  rw [zl]
  have hW : botI pa qa lo hi * botI pb qb lo (hi - 1) ^ ns.length = (wF pa qa pb qb lo hi ns.length) := rfl
  rw [hW]
  have ml : (sharesI pa qa lo hi mk).length = (hi + 1 - lo).toNat := shares_lenE (by omega)
  refine ⟨_, rfl, lm, rfl, ⟨_, SqL.of (s8 _ _ hlm6)⟩, for_enumA (K := K) (a := lm) (xs := (sharesI pa qa lo hi mk).map V.int) (fun j σ Hj => ∃ v16 v17 v18 v19 v20 v21 v22, σ = [some (.ref r), some (.ref c), some (.str "first"), some (.str x), some (.int mk), some (.ref sa), some (.ref sb), some (.ref sm), some (.int lo), some (.int hi), some (.ref l2), some (.ref lm), some (.int (botI pa qa lo hi)), some (.ref la), some (.ref lf), some (.int (wF pa qa pb qb lo hi ns.length)), v16, v17, v18, v19, v20, v21, v22] ∧ Same H6 Hj ∧ Hj lf = some (.lst (((rangeI 0 (ns.length + 1)).map (cntA (fun _ => 0) (cellsN pa qa pb qb mk ns lo hi j))).map V.int)))
    ⟨_, _, _, _, _, _, _, rfl, s8, hlf8⟩ (by rintro j σ Hj _ ⟨_, _, _, _, _, _, _, _, e, _⟩; exact SqL.of (e _ _ hlm6)) ?_ ?_⟩
  · rintro D' j y σ Hj t2 hy ⟨v16, v17, v18, v19, v20, v21, v22, rfl, sj, hlfj⟩ ht2
    obtain ⟨sh, rfl, hsh⟩ := ints_at hy
    have hj : j < (hi + 1 - lo).toNat := by rw [← ml]; exact (List.getElem?_eq_some_iff.mp hsh).1
    have esh : sh = lawSh pa qa lo hi mk (lo + (j : Int)) := by
      unfold sharesI at hsh
      rw [if_neg (by omega), List.getElem?_map, rangeI_get hj] at hsh
      exact (Option.some.inj hsh).symm
    subst esh
    have nt2 : t2 ≠ lf := (ne_of_none hlfj ht2).symm
    have sj2 := sj.trans (same_new ht2 (.tup [.int j, .int (lawSh pa qa lo hi mk (lo + (j : Int)))]))
    have hlfj2 := same_new ht2 (.tup [.int j, .int (lawSh pa qa lo hi mk (lo + (j : Int)))]) _ _ hlfj
    have htt : upd Hj t2 (.tup [.int j, .int (lawSh pa qa lo hi mk (lo + (j : Int)))]) t2 = some (.tup [.int j, .int (lawSh pa qa lo hi mk (lo + (j : Int)))]) := upd_same
    generalize upd Hj t2 (.tup [.int j, .int (lawSh pa qa lo hi mk (lo + (j : Int)))]) = Ha at sj2 hlfj2 htt ⊢
    refine ⟨t2, _, rfl, SqT.of htt, rfl, _, _, rfl, _, _, rfl, rfl, ?_⟩
    refine ⟨_, rfl, ?_⟩
    refine ⟨_, rfl, _, rfl, _, _, rfl, rfl, ⟨by omega, by omega⟩, ?_⟩
    have l0 := law_nn (lo := lo) (hi := hi) (n := mk) (y := lo + (j : Int)) F.sa
    have lb := sh_le_bot F.sa F.m0 F.m1 (show lo < hi by omega) (show lo ≤ lo + (j : Int) by omega) (show lo + (j : Int) ≤ hi by omega)
    have tris := F.tris (m := lo + (j : Int))
    have pe : botI pa qa lo hi * prodU (ns.map (tri pb qb lo (hi - 1) (lo + (j : Int)))) = (wF pa qa pb qb lo hi ns.length) := by rw [prodU_tri]; rfl
    have er : prodU ((ns.map (tri pb qb lo (hi - 1) (lo + (j : Int)))).drop 0) = (wF pa qa pb qb lo hi ns.length) / botI pa qa lo hi := by
      rw [List.drop_zero, ← pe]
      exact (Int.mul_ediv_cancel_left _ (by omega)).symm
    refine ⟨_, rfl, la, rfl, ⟨_, SqL.of (sj2 _ _ hla6)⟩, for_enumA (K := K) (a := la) (xs := zs) (fun i σ Hi => ∃ l D dc v16 v17 v22, σ = [some (.ref r), some (.ref c), some (.str "first"), some (.str x), some (.int mk), some (.ref sa), some (.ref sb), some (.ref sm), some (.int lo), some (.int hi), some (.ref l2), some (.ref lm), some (.int (botI pa qa lo hi)), some (.ref la), some (.ref lf), some (.int (wF pa qa pb qb lo hi ns.length)), v16, v17, some (.int (j : Int)), some (.int (lawSh pa qa lo hi mk (lo + (j : Int)))), some (.int l), some (.int (prodU ((ns.map (tri pb qb lo (hi - 1) (lo + (j : Int)))).drop i))), v22] ∧ Same H6 Hi ∧
        Hi lf = some (.lst (((rangeI 0 (ns.length + 1)).map (cntA (fun _ => 0) (cellsN pa qa pb qb mk ns lo hi j ++ keyed 0 dc))).map V.int)) ∧ contrib (lawSh pa qa lo hi mk (lo + (j : Int))) (ns.map (tri pb qb lo (hi - 1) (lo + (j : Int)))) = dc ++ contrib l ((ns.map (tri pb qb lo (hi - 1) (lo + (j : Int)))).drop i) ∧ dc.length = i ∧ 0 ≤ l ∧ l ≤ D ∧ 1 ≤ D ∧ D * prodU ((ns.map (tri pb qb lo (hi - 1) (lo + (j : Int)))).drop i) = (wF pa qa pb qb lo hi ns.length))
      ⟨lawSh pa qa lo hi mk (lo + (j : Int)), botI pa qa lo hi, [], v16, v17, v22, by rw [er]; rfl, sj2, by rw [show keyed 0 [] = [] from rfl, List.append_nil]; exact hlfj2, rfl, rfl, by omega, lb, b34.1, pe⟩ (by rintro i σ Hi _ ⟨_, _, _, _, _, _, _, e, _⟩; exact SqL.of (e _ _ hla6)) ?_ ?_⟩
    · rintro D' i y σ Hi t3 hy ⟨l, D, dc, v16, v17, v22, rfl, si, hlfi, ecc, dl, l0', lD, D1, pD⟩ ht3
      obtain ⟨n, hn, t, ls, rfl, ht, hls⟩ := tw6.at hy
      have hin : i < ns.length := (List.getElem?_eq_some_iff.mp hn).1
      have nn := F.nn n (List.mem_of_getElem? hn)
      have hdrop : (ns.map (tri pb qb lo (hi - 1) (lo + (j : Int)))).drop i = tri pb qb lo (hi - 1) (lo + (j : Int)) n :: (ns.map (tri pb qb lo (hi - 1) (lo + (j : Int)))).drop (i + 1) := drop_tri (by rw [List.getElem?_map, hn]; rfl)
      have tt : Tri (tri pb qb lo (hi - 1) (lo + (j : Int)) n) := tris _ (List.mem_map.mpr ⟨n, List.mem_of_getElem? hn, rfl⟩)
      rw [hdrop] at ecc pD ⊢
      have prp : 1 ≤ prodU ((ns.map (tri pb qb lo (hi - 1) (lo + (j : Int)))).drop (i + 1)) := prodU_pos fun t ht => tris t (List.mem_of_mem_drop ht)
      generalize (ns.map (tri pb qb lo (hi - 1) (lo + (j : Int)))).drop (i + 1) = rest at ecc pD prp ⊢
      have ta : 0 ≤ aft pb qb lo (hi - 1) n (lo + (j : Int)) := tt.a
      have tc : 0 ≤ bef pb qb lo (hi - 1) n (lo + (j : Int)) := tt.c
      have tS : aft pb qb lo (hi - 1) n (lo + (j : Int)) + bef pb qb lo (hi - 1) n (lo + (j : Int)) = botI pb qb lo (hi - 1) := tt.s
      have pD' : D * (botI pb qb lo (hi - 1) * prodU rest) = (wF pa qa pb qb lo hi ns.length) := pD
      have ecc' : contrib (lawSh pa qa lo hi mk (lo + (j : Int))) (ns.map (tri pb qb lo (hi - 1) (lo + (j : Int)))) = dc ++ (l * aft pb qb lo (hi - 1) n (lo + (j : Int)) * prodU rest :: contrib (l * bef pb qb lo (hi - 1) n (lo + (j : Int))) rest) := ecc
      have eA : ((sharesI pb qb lo (hi - 1) n).drop j).sum = aft pb qb lo (hi - 1) n (lo + (j : Int)) := by unfold aft; rw [toNat_sub]
      have eC : ((sharesI pb qb lo (hi - 1) n).take j).sum = bef pb qb lo (hi - 1) n (lo + (j : Int)) := by unfold bef; rw [toNat_sub]
      have jl : j ≤ (sharesI pb qb lo (hi - 1) n).length := by rw [shares_lenE (by omega)]; omega
      have eR : (botI pb qb lo (hi - 1) * prodU rest) / botI pb qb lo (hi - 1) = prodU rest := Int.mul_ediv_cancel_left _ (by omega)
      generalize aft pb qb lo (hi - 1) n (lo + (j : Int)) = A at ta tS ecc' eA
      generalize bef pb qb lo (hi - 1) n (lo + (j : Int)) = C at tc tS ecc' eC
      have B := inner_b l0' lD D1 ta tc tS u34.1 prp pD' wb.2
      have bR : -(2 ^ 250 : Int) < botI pb qb lo (hi - 1) * prodU rest / botI pb qb lo (hi - 1) ∧ botI pb qb lo (hi - 1) * prodU rest / botI pb qb lo (hi - 1) < (2 ^ 250 : Int) := by rw [eR]; exact B.bP
      have bAs : -(2 ^ 250 : Int) < ((sharesI pb qb lo (hi - 1) n).drop j).sum ∧ ((sharesI pb qb lo (hi - 1) n).drop j).sum < (2 ^ 250 : Int) := by rw [eA]; exact B.bA
      have bCs : -(2 ^ 250 : Int) < ((sharesI pb qb lo (hi - 1) n).take j).sum ∧ ((sharesI pb qb lo (hi - 1) n).take j).sum < (2 ^ 250 : Int) := by rw [eC]; exact B.bC
      have blA : -(2 ^ 250 : Int) < l * ((sharesI pb qb lo (hi - 1) n).drop j).sum ∧ l * ((sharesI pb qb lo (hi - 1) n).drop j).sum < (2 ^ 250 : Int) := by rw [eA]; exact B.la
      have nt3 : t3 ≠ lf := (ne_of_none hlfi ht3).symm
      have si2 := si.trans (same_new ht3 (.tup [.int i, .ref t]))
      have hlfi2 := same_new ht3 (.tup [.int i, .ref t]) _ _ hlfi
      have htt3 : upd Hi t3 (.tup [.int i, .ref t]) t3 = some (.tup [.int i, .ref t]) := upd_same
      generalize upd Hi t3 (.tup [.int i, .ref t]) = Hb at si2 hlfi2 htt3 ⊢
      refine ⟨t3, _, rfl, SqT.of htt3, rfl, _, _, rfl, _, _, rfl, t, _, rfl, SqT.of (si2 _ _ ht), rfl, _, _, rfl, _, _, rfl, rfl, rfl, ?_⟩
      refine ⟨_, rfl, _, rfl, _, _, rfl, rfl, ⟨by omega, by omega⟩, ?_⟩
      generalize hg : cntA (fun _ => 0) (cellsN pa qa pb qb mk ns lo hi j ++ keyed 0 dc) = g at hlfi2
      refine ⟨_, rfl, _, rfl, lf, _, _, .int (g (i : Int)), rfl, rfl, SqL.of hlfi2, by omega, ?_, ?_⟩
      · rw [Int.toNat_natCast, List.getElem?_map, List.getElem?_map, rangeI_get (by omega)]
        show some (V.int (g (0 + (i : Int)))) = _
        rw [Int.zero_add]
      refine ⟨_, rfl, _, rfl, _, rfl, _, rfl, ls, _, rfl, SqL.of (si2 _ _ hls), fun p hp => ?_⟩
      rw [cut_drop _ jl]
      have sp := same_new hp (.lst (((sharesI pb qb lo (hi - 1) n).drop j).map V.int))
      have hp2 : upd Hb p (.lst (((sharesI pb qb lo (hi - 1) n).drop j).map V.int)) p = some (.lst (((sharesI pb qb lo (hi - 1) n).drop j).map V.int)) := upd_same
      generalize upd Hb p (.lst (((sharesI pb qb lo (hi - 1) n).drop j).map V.int)) = Hc at sp hp2 ⊢
      refine ⟨p, _, rfl, SqL.of hp2, _, _, rfl, rfl, ⟨⟨B.bl.1, B.bl.2⟩, ⟨bAs.1, bAs.2⟩⟩, _, rfl, _, _, rfl, rfl, ⟨⟨blA.1, blA.2⟩, ⟨bR.1, bR.2⟩⟩, ?_⟩
      have hlfi3 := sp _ _ hlfi2
      refine ⟨_, _, rfl, rfl, lf, _, _, i, rfl, rfl, hlfi3, ?_, ?_⟩
      · rw [List.length_map, List.length_map, rangeI_len]
        unfold ixN
        rw [if_pos (by omega), if_pos (by omega), Int.toNat_natCast]
      have hset : (((rangeI 0 (ns.length + 1)).map g).map V.int).set i (.int (g (i : Int) + l * ((sharesI pb qb lo (hi - 1) n).drop j).sum * (botI pb qb lo (hi - 1) * prodU rest / botI pb qb lo (hi - 1)))) = ((rangeI 0 (ns.length + 1)).map (cntA (fun _ => 0) (cellsN pa qa pb qb mk ns lo hi j ++ keyed 0 (dc ++ [l * A * prodU rest])))).map V.int := by
        rw [eA, eR, set_mapV g _ (by omega), keyed_snoc, ← List.append_assoc, cnt_snocF, hg, dl, Int.zero_add]
      have gp : ∀ R : Hp → Prop, R (upd Hc lf (.lst (((rangeI 0 (ns.length + 1)).map (cntA (fun _ => 0) (cellsN pa qa pb qb mk ns lo hi j ++ keyed 0 (dc ++ [l * A * prodU rest])))).map V.int))) → R (upd Hc lf (.lst ((((rangeI 0 (ns.length + 1)).map g).map V.int).set i (.int (g (i : Int) + l * ((sharesI pb qb lo (hi - 1) n).drop j).sum * (botI pb qb lo (hi - 1) * prodU rest / botI pb qb lo (hi - 1))))))) := fun R h => by rw [hset]; exact h
      refine gp _ ?_
      have si4 : Same H6 (upd Hc lf (.lst (((rangeI 0 (ns.length + 1)).map (cntA (fun _ => 0) (cellsN pa qa pb qb mk ns lo hi j ++ keyed 0 (dc ++ [l * A * prodU rest])))).map V.int))) := same_any (si2.trans sp) hlf6
      have hlf4 : upd Hc lf (.lst (((rangeI 0 (ns.length + 1)).map (cntA (fun _ => 0) (cellsN pa qa pb qb mk ns lo hi j ++ keyed 0 (dc ++ [l * A * prodU rest])))).map V.int)) lf = some (.lst (((rangeI 0 (ns.length + 1)).map (cntA (fun _ => 0) (cellsN pa qa pb qb mk ns lo hi j ++ keyed 0 (dc ++ [l * A * prodU rest])))).map V.int)) := upd_same
      generalize upd Hc lf (.lst (((rangeI 0 (ns.length + 1)).map (cntA (fun _ => 0) (cellsN pa qa pb qb mk ns lo hi j ++ keyed 0 (dc ++ [l * A * prodU rest])))).map V.int)) = Hd at si4 hlf4 ⊢
      refine ⟨_, rfl, _, rfl, _, rfl, _, rfl, ls, _, rfl, SqL.of (si4 _ _ hls), fun p5 hp5 => ?_⟩
      rw [cut_take _ jl]
      have sp5 := same_new hp5 (.lst (((sharesI pb qb lo (hi - 1) n).take j).map V.int))
      have hp52 : upd Hd p5 (.lst (((sharesI pb qb lo (hi - 1) n).take j).map V.int)) p5 = some (.lst (((sharesI pb qb lo (hi - 1) n).take j).map V.int)) := upd_same
      generalize upd Hd p5 (.lst (((sharesI pb qb lo (hi - 1) n).take j).map V.int)) = He at sp5 hp52 ⊢
      refine ⟨p5, _, rfl, SqL.of hp52, _, _, rfl, rfl, ⟨⟨B.bl.1, B.bl.2⟩, ⟨bCs.1, bCs.2⟩⟩, ?_⟩
      refine ⟨l * C, D * botI pb qb lo (hi - 1), dc ++ [l * A * prodU rest], some (.ref ls), some (.int (botI pb qb lo (hi - 1))), some (.int (i : Int)), ?_, si4.trans sp5, sp5 _ _ hlf4, ?_, by rw [List.length_append, dl]; rfl, B.c0, B.cd, B.du, B.pd⟩
      · rw [← eC, ← eR]
        rfl
      · rw [ecc', List.append_assoc]
        rfl
    · rintro σ Hi ⟨l, D, dc, v16, v17, v22, rfl, si, hlfi, ecc, dl, l0', lD, D1, pD⟩
      rw [zl] at ecc dl pD
      have hdr : (ns.map (tri pb qb lo (hi - 1) (lo + (j : Int)))).drop ns.length = [] := by rw [List.drop_of_length_le]; rw [List.length_map]; exact Nat.le_refl _
      rw [hdr] at ecc pD
      generalize hg : cntA (fun _ => 0) (cellsN pa qa pb qb mk ns lo hi j ++ keyed 0 dc) = g at hlfi
      have un : (us.length : Int).toNat = ns.length := by omega
      refine ⟨_, rfl, _, rfl, sm, _, rfl, .inr (SqT.of (si _ _ (g6 _ _ hsm))), lf, _, _, .int (g (ns.length : Int)), rfl, rfl, SqL.of hlfi, by omega, ?_, ?_⟩
      · rw [un, List.getElem?_map, List.getElem?_map, rangeI_get (by omega)]
        show some (V.int (g (0 + (ns.length : Int)))) = _
        rw [Int.zero_add]
      refine ⟨_, rfl, _, _, rfl, rfl, lf, _, _, ns.length, rfl, rfl, hlfi, ?_, ?_⟩
      · rw [List.length_map, List.length_map, rangeI_len]
        unfold ixN
        rw [if_pos (by omega), if_pos (by omega), un]
      refine ⟨_, _, _, _, _, _, _, rfl, same_any si hlf6, ?_⟩
      rw [upd_same, set_mapV g l (by omega), cellsN_succ]
      unfold cellsM
      rw [ecc]
      show _ = some (HO.lst (((rangeI 0 (ns.length + 1)).map (cntA (fun _ => 0) (cellsN pa qa pb qb mk ns lo hi j ++ keyed 0 (dc ++ [l])))).map V.int))
      rw [keyed_snoc, ← List.append_assoc, cnt_snocF, hg, dl, Int.zero_add]
  · rintro σ Hj ⟨v16, v17, v18, v19, v20, v21, v22, rfl, sj, hlfj⟩
    rw [List.length_map, ml] at hlfj
    rw [← nl] at k
    refine ⟨_, rfl, _, rfl, by show 2 ≤ sizeLine; decide, fun t ht => ?_⟩
    exact k _ t lf (g6.trans (sj.trans (same_new ht _))) upd_same (same_new ht _ _ _ hlfj)
end
end Mine
namespace Mine
open PySem L2
section
variable {P : Program} {w : World} {K : PySem.W.Frag} {mg : Str → Option Value} {base : Heap}
theorem nd_Law1 : (["_law_weights", "_law_crowd_here", "_law_row"] : List Str).Nodup := by decide +kernel
theorem nd_Law2 : (["_law_weights", "_law_crowd_here", "_law_row"] : List Str).Nodup := by decide +kernel
theorem scLaw : FnScope ["_law_script", "_law_deal_here", "_law_asked", "_law_turn", "_law_kinds", "_law_row", "_law_crowd_here", "_law_numbers", "_law_shares", "_law_bottom", "_law_due"] ["_law_script"] (defScope sLaw) := ⟨rfl, rfl, rfl, by decide +kernel, rfl, by decide +kernel, by decide +kernel⟩
theorem ok_Law {f : Addr} {fd : FuncData} (F : Fun K "law" "law" sLaw f fd)
    {f_Deal : Addr} {d_Deal : FuncData} (G_Deal : FnOk P w K mg base CX0 1 f_Deal d_Deal ["_law_script", "_law_base"] (spDeal K)) (b_Deal : Binds K d_Deal ["_law_script", "_law_base"] []) (k_Deal : PySem.W.keepIn K (.ref f_Deal) = true) (m_Deal : mg "_law_deal" = some (.ref f_Deal))
    {f_Throw : Addr} {d_Throw : FuncData} (G_Throw : FnOk P w K mg base CX0 3 f_Throw d_Throw ["_law_deal_here", "_law_word", "_law_kinds"] spThrowF) (b_Throw : Binds K d_Throw ["_law_deal_here", "_law_word", "_law_kinds"] []) (k_Throw : PySem.W.keepIn K (.ref f_Throw) = true) (m_Throw : mg "_law_throw" = some (.ref f_Throw))
    {f_Crowd : Addr} {d_Crowd : FuncData} (G_Crowd : FnOk P w K mg base CX0 2 f_Crowd d_Crowd ["_law_deal_here", "_law_kinds"] spCrowd) (b_Crowd : Binds K d_Crowd ["_law_deal_here", "_law_kinds"] []) (k_Crowd : PySem.W.keepIn K (.ref f_Crowd) = true) (m_Crowd : mg "_law_crowd" = some (.ref f_Crowd))
    {f_LFirst : Addr} {d_LFirst : FuncData} (G_LFirst : FnOk P w K mg base CX0 3 f_LFirst d_LFirst ["_law_row", "_law_crowd_here"] spLFirst) (b_LFirst : Binds K d_LFirst ["_law_row", "_law_crowd_here"] []) (k_LFirst : PySem.W.keepIn K (.ref f_LFirst) = true) (m_LFirst : mg "_law_first" = some (.ref f_LFirst))
    {f_Draw : Addr} {d_Draw : FuncData} (G_Draw : FnOk P w K mg base CX0 1 f_Draw d_Draw ["_law_deal_here", "_law_many"] spDraw) (b_Draw : Binds K d_Draw ["_law_deal_here", "_law_many"] []) (k_Draw : PySem.W.keepIn K (.ref f_Draw) = true) (m_Draw : mg "_law_draw" = some (.ref f_Draw))
    {f_LNum : Addr} {d_LNum : FuncData} (G_LNum : FnOk P w K mg base CX0 1 f_LNum d_LNum ["_law_weights", "_law_crowd_here", "_law_low", "_law_high"] spLNum) (b_LNum : Binds K d_LNum ["_law_weights", "_law_crowd_here", "_law_low", "_law_high"] []) (k_LNum : PySem.W.keepIn K (.ref f_LNum) = true) (m_LNum : mg "_law_number" = some (.ref f_LNum))
    {f_Tab : Addr} {d_Tab : FuncData} (G_Tab : FnOk P w K mg base CX0 2 f_Tab d_Tab ["_law_shares", "_law_bottom", "_law_first_here"] spTabZ) (b_Tab : Binds K d_Tab ["_law_shares", "_law_bottom", "_law_first_here"] []) (k_Tab : PySem.W.keepIn K (.ref f_Tab) = true) (m_Tab : mg "_law_table" = some (.ref f_Tab))
    {f_Num : Addr} {d_Num : FuncData} (G_Num : FnOk P w K mg base CX0 3 f_Num d_Num ["row", "crowd"] spNumF) (b_Num : Binds K d_Num ["row", "crowd"] []) (k_Num : PySem.W.keepIn K (.ref f_Num) = true) (m_Num : mg "number_of" = some (.ref f_Num))
    {f_Thr : Addr} {d_Thr : FuncData} (G_Thr : FnOk P w K mg base CX0 8 f_Thr d_Thr ["row", "crowd"] spFirstT) (b_Thr : Binds K d_Thr ["row", "crowd"] []) (k_Thr : PySem.W.keepIn K (.ref f_Thr) = true) (m_Thr : mg "thrown" = some (.ref f_Thr))
    (m_range : mg "range" = none) (m_tuple : mg "tuple" = none) (m_list : mg "list" = none) (m_reversed : mg "reversed" = none) (m_repr : mg "repr" = none) :
    FnOk P w K mg base CX0 9 f fd ["_law_script"] (spLaw K) := by
  refine F.ok scLaw (fun vs H Q E h => ?_) (fun cdv A outer s H vs Q E hr h => ?_)
  · obtain ⟨a, ns, rfl, _⟩ := h
    rfl
  obtain ⟨a, ns, rfl, hS, hlen, k⟩ := h
  have hu := hu_of hr
  have hr1 : Room 1 _ := hr.mono (by decide)
  have hr2 : Room 2 _ := hr.mono (by decide)
  have hr3 : Room 3 _ := hr.mono (by decide)
  have hr8 : Room 8 _ := hr.mono (by decide)
  refine ⟨_, (pss_cons (ps_set (i := 1) scLaw.nd rfl (Or.inl rfl) (pe_call G_Deal hr1 (by rfl) m_Deal k_Deal b_Deal .nil pass0 (pa_cons (pv 0) (pa_cons pe_int pa_nil))))
    (pss_cons (ps_set (i := 2) scLaw.nd rfl (Or.inl rfl) (pe_lst pa_nil))
    (pss_cons (ps_for PassesOwn.never rfl (pi_range1 (by rfl) m_range (pa_cons pe_int pa_nil)) (pg_name (i := 3) scLaw.nd rfl (Or.inl rfl))
    (pss_cons (ps_set (i := 4) scLaw.nd rfl (Or.inl rfl) (pe_op op_add pe_int (pe_call G_Draw hr1 (by rfl) m_Draw k_Draw b_Draw .nil pass0 (pa_cons (pv 1) (pa_cons pe_int pa_nil)))))
    (pss_cons (ps_set (i := 5) scLaw.nd rfl (Or.inr rfl) (pe_call G_Throw hr3 (by rfl) m_Throw k_Throw b_Throw .nil pass0 (pa_cons (pv 1) (pa_cons pe_str (pa_cons (pv 4) pa_nil)))))
    (pss_cons (ps_set (i := 6) scLaw.nd rfl (Or.inr rfl) (pe_call G_Crowd hr2 (by rfl) m_Crowd k_Crowd b_Crowd .nil pass0 (pa_cons (pv 1) (pa_cons (pv 4) pa_nil))))
    (pss_cons (ps_set (i := 7) scLaw.nd rfl (Or.inl rfl) (pe_callTy call_tuple_of (by rfl) m_tuple PyProof.Rows.boot_tuple (pa_cons (pe_comp ["_law_weights", "_law_crowd_here", "_law_row"] [none, some 6, some 5] (pi_tup (pe_ix ix_tup (pv 5) pe_int (fun _ _ => rfl))) (fun _ _ _ _ => (pg_name (i := 0) (nd_Law2) rfl (Or.inl rfl))) (fun _ _ _ _ => pf_nil) (fun _ _ _ _ => (pe_call G_LNum hr1 (by rfl) m_LNum k_LNum b_LNum .nil pass0 (pa_cons (pv 0) (pa_cons (pv 1) (pa_cons (pe_ix (ixtK K) (pv 2) pe_int (fun _ _ => rfl)) (pa_cons (pe_op op_sub (pe_ix (ixtK K) (pv 2) pe_int (fun _ _ => rfl)) pe_int) pa_nil))))))) pa_nil)))
    (pss_cons (ps_asg (pe_call G_LFirst hr3 (by rfl) m_LFirst k_LFirst b_LFirst .nil pass0 (pa_cons (pv 5) (pa_cons (pv 6) pa_nil))) (pg_tup rfl (pgs_cons (pg_name (i := 8) scLaw.nd rfl (Or.inl rfl)) (pgs_cons (pg_name (i := 9) scLaw.nd rfl (Or.inl rfl)) pgs_nil))))
    (pss_one (ps_expr (pe_bm PySem.F.plainAttrs_list PySem.F.slot_list_append PySem.F.type_list_append mt_append (pv 2) (pa_cons (pe_tup (pa_cons (pv 5) (pa_cons (pv 6) (pa_cons (pv 7) (pa_cons (pe_call G_Tab hr2 (by rfl) m_Tab k_Tab b_Tab .nil pass0 (pa_cons (pv 8) (pa_cons (pv 9) (pa_cons pe_int pa_nil)))) pa_nil))))) pa_nil))))))))))
    (pss_cons (ps_for PassesOwn.never rfl (pi_list (pe_op op_cat (pv 2) (pe_listrev (pv 2) (by rfl) m_list (by rfl) m_reversed))) (pg_tup rfl (pgs_cons (pg_name (i := 5) scLaw.nd rfl (Or.inr rfl)) (pgs_cons (pg_name (i := 6) scLaw.nd rfl (Or.inr rfl)) (pgs_cons (pg_name (i := 7) scLaw.nd rfl (Or.inl rfl)) (pgs_cons (pg_name (i := 10) scLaw.nd rfl (Or.inl rfl)) pgs_nil)))))
    (pss_one (ps_if (pw_or (pt_cmpR op_ne (pe_callB (call_reprD hr1) (by rfl) m_repr PyProof.Rows.boot_repr (pa_cons (pe_call G_Num hr3 (by rfl) m_Num k_Num b_Num .nil pass0 (pa_cons (pv 5) (pa_cons (pv 6) pa_nil))) pa_nil)) (pe_callB (call_reprD hr1) (by rfl) m_repr PyProof.Rows.boot_repr (pa_cons (pv 7) pa_nil)) (nomark _)) (pw_or1 (pt_cmpR op_ne (pe_callB (call_reprD hr1) (by rfl) m_repr PyProof.Rows.boot_repr (pa_cons (pe_call G_Thr hr8 (by rfl) m_Thr k_Thr b_Thr .nil pass0 (pa_cons (pv 5) (pa_cons (pv 6) pa_nil))) pa_nil)) (pe_callB (call_reprD hr1) (by rfl) m_repr PyProof.Rows.boot_repr (pa_cons (pv 10) pa_nil)) (nomark _)))).pt (pss_one (ps_ret pe_bl)) pss_nil)))
    (pss_one (ps_ret pe_bl)))))), ?_⟩
  refine ⟨_, rfl, a, ns, 0, rfl, hS, hlen, by decide, by decide, fun d l H1 nd nl D1 s1 => ?_⟩
  refine ⟨Nat.zero_le _, fun ls hls => ?_⟩
  have S0 : SomeF (upd H1 ls (.lst [])) d l ls [] := ⟨DealL.new D1 hls, fun _ z => nomatch z⟩
  generalize upd H1 ls (.lst []) = H2 at S0 ⊢
  refine ⟨3, rfl, by decide, by decide, for_rangeA (n := 3) (fun i σ H3 => ∃ (ts : List V) (v3 v4 v5 v6 v7 v8 v9 v10 : Option V), σ = [some (.ref a), some (.ref d), some (.ref ls), v3, v4, v5, v6, v7, v8, v9, v10] ∧ SomeF H3 d l ls ts ∧ ts.length = i)
    ⟨[], _, _, _, _, _, _, _, _, rfl, S0, rfl⟩ ?_ ?_⟩
  · rintro D' i σ H3 hi3 ⟨ts, v3, v4, v5, v6, v7, v8, v9, v10, rfl, S3, hts⟩
    refine ⟨_, rfl, d, l, 3, rfl, S3.b.deal, by decide, by decide, fun kx H4 a0 a1 D4 o4 => ⟨_, _, rfl, rfl, ?_⟩⟩
    have S4 := S3.out D4 o4
    refine ⟨_, rfl, _, rfl, d, l, 1 + kx, rfl, S4.b.deal, by omega, by omega, fun rw9 x mk sa sb sm lo hi wss pa qa pb qb H5 row5 en m0 m1 so5 wl wb hsa5 sta hsb5 stb D5 o5 => ?_⟩
    have S5 := S4.out D5 o5
    refine ⟨_, rfl, _, rfl, d, l, 1 + kx, rfl, S5.b.deal, by omega, by omega, fun c cs H6 hc lc D6 o6 => ?_⟩
    have t6 := TS.out S5.b.deal o6
    have S6 := S5.out D6 o6
    have row6 : RowF H6 rw9 x mk sa sb sm lo hi := t6 _ _ row5
    have so6 := so5.ts t6
    have few : Few wss cs := ⟨wl.1, wl.2, fun ws hws => by
      obtain ⟨w1, w2⟩ := wb ws hws
      exact ⟨by omega, by omega, w2⟩⟩
    have nl' : (numsI wss cs lo (hi - 1)).length = wss.length := by unfold numsI; rw [List.length_map]
    have ea := en.a
    have eb := en.b
    have ec := en.c
    have ni := nums_in (wss := wss) (cs := cs) (lo := lo) (hi := hi - 1) ⟨ea, by omega, by omega⟩
    have fa := few.a
    have fb := few.b
    have F : InF pa qa pb qb mk (numsI wss cs lo (hi - 1)) lo hi := ⟨sta, stb, en, m0, m1, ni, by omega, by omega⟩
    have FA : FirstAt H6 rw9 c x mk sa sb sm lo hi wss cs pa qa pb qb := ⟨row6, so6, hc, few, t6 _ _ hsa5, t6 _ _ hsb5, F⟩
    obtain ⟨vs, h8, tw8⟩ := id so6
    have vl := tw8.length
    refine ⟨_, rfl, rw9, _, _, _, rfl, rfl, SqT.of row6, rfl, sm, rfl, ⟨_, SqT.of h8⟩, comp_tup (xs := vs) (fun i zs σ H9 => Same H6 H9 ∧ (∃ v, σ = [v, some (.ref c), some (.ref rw9)]) ∧ zs = ((numsI wss cs lo (hi - 1)).take i).map V.int)
      (small1000 (by omega)) ⟨Same.refl _, ⟨_, rfl⟩, rfl⟩ (by rintro i zs σ H9 ⟨_, _, e⟩; rw [e, List.length_map, List.length_take]; omega) (by rintro i zs σ H9 _ ⟨e, _⟩; exact SqT.of (e _ _ h8)) ?_ ?_⟩
    · rintro j y zs σ H9 hy ⟨s9, ⟨v, rfl⟩, rfl⟩
      obtain ⟨ws, hws, aw, rfl, hia⟩ := tw8.at hy
      refine ⟨_, rfl, _, rfl, _, rfl, rw9, _, _, _, rfl, rfl, SqT.of (s9 _ _ row6), rfl, _, rfl, rw9, _, _, _, rfl, rfl, SqT.of (s9 _ _ row6), rfl, _, _, rfl, rfl, ?_⟩
      refine ⟨aw, c, ws, cs, lo, hi - 1, rfl, s9 _ _ hia, s9 _ _ hc, few.w ws (List.mem_of_getElem? hws), fun H10 s10 => ⟨s9.trans s10, ⟨_, rfl⟩, ?_⟩⟩
      rw [take_snoc (nums_at hws), List.map_append]
      rfl
    rintro zs σ H9 ⟨s9, _, rfl⟩ l9 hl9
    have e9 : (numsI wss cs lo (hi - 1)).take vs.length = numsI wss cs lo (hi - 1) := by rw [vl, ← nl', List.take_length]
    rw [e9]
    refine ⟨l9, _, rfl, .inl ⟨SqL.of upd_same, fun nt hnt => ?_⟩⟩
    have g10 := s9.trans ((same_new hl9 (.lst ((numsI wss cs lo (hi - 1)).map V.int))).trans (same_new hnt (.tup ((numsI wss cs lo (hi - 1)).map V.int))))
    have hnt10 : IntsAt (upd (upd H9 l9 (.lst ((numsI wss cs lo (hi - 1)).map V.int))) nt (.tup ((numsI wss cs lo (hi - 1)).map V.int))) nt (numsI wss cs lo (hi - 1)) := upd_same
    generalize upd (upd H9 l9 (.lst ((numsI wss cs lo (hi - 1)).map V.int))) nt (.tup ((numsI wss cs lo (hi - 1)).map V.int)) = H10 at g10 hnt10 ⊢
    have FA10 := FA.ts (.of g10)
    refine ⟨_, rfl, _, rfl, rw9, c, x, mk, sa, sb, sm, lo, hi, wss, cs, pa, qa, pb, qb, rfl, FA10, fun H11 t11 ls11 s11 h11 hl11 => ?_⟩
    refine ⟨t11, _, rfl, SqT.of h11, rfl, _, _, rfl, _, _, rfl, rfl, ?_⟩
    have wbd := wF_bd (k := wss.length) sta stb en (by omega)
    have S11 := S6.same (g10.trans s11)
    refine ⟨_, rfl, .inl ⟨rfl, _, SqL.of S11.b.lst⟩, ?_⟩
    refine ⟨_, rfl, _, rfl, _, rfl, _, rfl, _, rfl, ls11, _, _, _, rfl, hl11, fun s hs => ?_, by rw [List.length_map, rangeI_len]; omega, wbd.1, by omega, fun H12 du dv s12 hdu two => ?_⟩
    · obtain ⟨y, _, rfl⟩ := List.mem_map.mp hs
      exact (F.cnt y).1
    refine ⟨by show 4 ≤ sizeLine; decide, fun t ht => ?_⟩
    have S12 := S11.same s12
    refine ⟨ls, ts, _, rfl, rfl, same_new ht _ _ _ S12.b.lst, small1000 (by omega), ?_⟩
    have two' : Two (Ent H12) dv (firstTab pa qa pb qb mk (numsI wss cs lo (hi - 1)) lo hi) := by
      unfold firstTab
      rw [nl']
      exact two
    refine ⟨ts ++ [.ref t], _, _, _, _, _, _, _, _, rfl, S12.app ht (FA10.ts (.of (s11.trans s12))) ((s11.trans s12) _ _ hnt10) hdu two', by rw [List.length_append, hts]; rfl⟩
  rintro σ H3 ⟨ts, v3, v4, v5, v6, v7, v8, v9, v10, rfl, S3, hts⟩
  refine ⟨_, rfl, _, rfl, ls, _, rfl, SqL.of S3.b.lst, fun q hq => ?_⟩
  refine ⟨ls, q, ts, ts.reverse, rfl, rfl, same_new hq _ _ _ S3.b.lst, upd_same, Nat.le_of_lt (small1000 (by rw [List.length_reverse]; omega)), fun r hr' => ?_⟩
  have T4 : ∀ v ∈ ts ++ ts.reverse, AskF (upd (upd H3 q (.lst ts.reverse)) r (.lst (ts ++ ts.reverse))) v := fun v hv => by
    have hv' : v ∈ ts := by
      rcases List.mem_append.mp hv with z | z
      · exact z
      · exact List.mem_reverse.mp z
    exact (S3.asks v hv').ts (.of ((same_new hq _).trans (same_new hr' _)))
  have hr4 : upd (upd H3 q (.lst ts.reverse)) r (.lst (ts ++ ts.reverse)) r = some (.lst (ts ++ ts.reverse)) := upd_same
  generalize upd (upd H3 q (.lst ts.reverse)) r (.lst (ts ++ ts.reverse)) = H4 at T4 hr4 ⊢
  generalize ts ++ ts.reverse = xs at T4 hr4 ⊢
  refine ⟨r, rfl, ⟨_, SqL.of hr4⟩, for_listA (K := K) (a := r) (xs := xs) (fun i σ H5 => Same H4 H5 ∧ ∃ v3 v4 v5 v6 v7 v8 v9 v10, σ = [some (.ref a), some (.ref d), some (.ref ls), v3, v4, v5, v6, v7, v8, v9, v10])
    ⟨Same.refl _, _, _, _, _, _, _, _, _, rfl⟩ (by rintro i σ H5 _ ⟨e, _⟩; exact SqL.of (e _ _ hr4)) ?_ ?_⟩
  · rintro D' i v σ H5 hv ⟨s5, v3, v4, v5, v6, v7, v8, v9, v10, rfl⟩
    obtain ⟨t, rw9, c, nt, du, x, mk, sa, sb, sm, lo, hi, wss, cs, pa, qa, pb, qb, dv, rfl, ht', FA, hnt, hdu, two⟩ := T4 v (List.mem_of_getElem? hv)
    obtain ⟨row, so, hc, few, hsa, hsb, F⟩ := id FA
    have en := F.en
    have nl' : (numsI wss cs lo (hi - 1)).length = wss.length := by unfold numsI; rw [List.length_map]
    have fa := few.a
    have fb := few.b
    refine ⟨t, _, rfl, SqT.of (s5 _ _ ht'), rfl, _, _, rfl, _, _, rfl, _, _, rfl, _, _, rfl, rfl, ?_⟩
    have os := ints_show (ns := numsI wss cs lo (hi - 1)) (fun n hn => ⟨by have := F.nn n hn; have := en.a; omega, by have := F.nn n hn; have := en.c; omega⟩) (by omega)
    refine ⟨_, rfl, _, rfl, rw9, x, mk, sa, sb, sm, lo, hi, wss, c, cs, rfl, s5 _ _ row, so.ts (.of s5), s5 _ _ hc, few, fun H6 t6 s6 h6 => ?_⟩
    refine ⟨.tuple ((numsI wss cs lo (hi - 1)).map PyData.int), t6, rfl, ⟨t6, _, rfl, SqT.of h6, repL_ints _⟩, os.1, os.2.1, os.2.2.1, os.2.2.2, ?_⟩
    refine ⟨_, rfl, .tuple ((numsI wss cs lo (hi - 1)).map PyData.int), nt, rfl, ⟨nt, _, rfl, SqT.of (s6 _ _ (s5 _ _ hnt)), repL_ints _⟩, os.1, os.2.1, os.2.2.1, os.2.2.2, rfl, _, rfl, ?_⟩
    refine iteNS rfl ?_
    have s7 := s5.trans s6
    have tsm := F.small
    have tsh := tab_show tsm.1 tsm.2
    refine ⟨_, rfl, _, rfl, rw9, c, x, mk, sa, sb, sm, lo, hi, wss, cs, pa, qa, pb, qb, rfl, FA.ts (.of s7), fun H8 t8 us s8 h8 tw8 => ?_⟩
    refine ⟨tabD (firstTab pa qa pb qb mk (numsI wss cs lo (hi - 1)) lo hi), t8, rfl, ⟨t8, us, rfl, SqT.of h8, tw8.rep fun _ _ z => ent_rep z⟩, tsh.1, tsh.2.1, tsh.2.2.1, tsh.2.2.2, ?_⟩
    have s9 := s7.trans s8
    refine ⟨_, rfl, tabD (firstTab pa qa pb qb mk (numsI wss cs lo (hi - 1)) lo hi), du, rfl, ⟨du, dv, rfl, SqT.of (s9 _ _ hdu), (tab_ts (.of s9) two).rep fun _ _ z => ent_rep z⟩, tsh.1, tsh.2.1, tsh.2.2.1, tsh.2.2.2, rfl, _, rfl, ?_⟩
    refine iteNS rfl ?_
    exact ⟨s9, _, _, _, _, _, _, _, _, rfl⟩
  · rintro σ H5 ⟨s5, v3, v4, v5, v6, v7, v8, v9, v10, rfl⟩
    exact k _
end
end Mine
namespace Mine
open PySem L2
section
variable {P : Program} {w : World} {K : PySem.W.Frag} {mg : Str → Option Value} {base : Heap}
theorem scCrowd : FnScope ["_law_deal_here", "_law_kinds", "_law_found", "_law_kind", "_law_way", "_law_many"] ["_law_deal_here", "_law_kinds"] (defScope sCrowd) := ⟨rfl, rfl, rfl, by decide +kernel, rfl, by decide +kernel, by decide +kernel⟩
theorem ok_Crowd {f : Addr} {fd : FuncData} (F : Fun K "_law_crowd" "_law_crowd" sCrowd f fd)
    {f_Draw : Addr} {d_Draw : FuncData} (G_Draw : FnOk P w K mg base CX0 1 f_Draw d_Draw ["_law_deal_here", "_law_many"] spDraw) (b_Draw : Binds K d_Draw ["_law_deal_here", "_law_many"] []) (k_Draw : PySem.W.keepIn K (.ref f_Draw) = true) (m_Draw : mg "_law_draw" = some (.ref f_Draw))
    (m_range : mg "range" = none) (m_tuple : mg "tuple" = none) (m_int : mg "int" = none) :
    FnOk P w K mg base CX0 2 f fd ["_law_deal_here", "_law_kinds"] spCrowd := by
  refine F.ok scCrowd (fun vs H Q E h => ?_) (fun cdv A outer s H vs Q E hr h => ?_)
  · obtain ⟨d, l, n, rfl, _⟩ := h
    rfl
  obtain ⟨d, l, n, rfl, D, n0, n1, k⟩ := h
  have hu := hu_of hr
  have hr1 : Room 1 _ := hr.mono (by decide)
  refine ⟨_, (pss_cons (ps_set (i := 2) scCrowd.nd rfl (Or.inl rfl) (pe_lst pa_nil))
    (pss_cons (ps_for PassesOwn.never rfl (pi_range1 (by rfl) m_range (pa_cons (pv 1) pa_nil)) (pg_name (i := 3) scCrowd.nd rfl (Or.inl rfl))
    (pss_cons (ps_set (i := 4) scCrowd.nd rfl (Or.inl rfl) (pe_call G_Draw hr1 (by rfl) m_Draw k_Draw b_Draw .nil pass0 (pa_cons (pv 0) (pa_cons pe_int pa_nil))))
    (pss_cons (ps_set (i := 5) scCrowd.nd rfl (Or.inl rfl) (pe_ix ix_list (pe_lst (pa_cons (pe_call G_Draw hr1 (by rfl) m_Draw k_Draw b_Draw .nil pass0 (pa_cons (pv 0) (pa_cons pe_int pa_nil))) (pa_cons (pe_call G_Draw hr1 (by rfl) m_Draw k_Draw b_Draw .nil pass0 (pa_cons (pv 0) (pa_cons pe_int pa_nil))) pa_nil))) (pe_callTy call_int1 (by rfl) m_int PyProof.Rows.boot_int (pa_cons (pe_cmpR op_eq (pv 4) pe_int (nomark _)) pa_nil)) (fun _ _ => rfl)))
    (pss_cons (ps_if (pt_cmpR op_gt (pv 4) pe_int (nomark _)) (pss_one (ps_set (i := 5) scCrowd.nd rfl (Or.inl rfl) (pe_ix ix_list (pe_lst (pa_cons (pe_op op_sub (pe_op op_pow pe_int pe_int) (pe_call G_Draw hr1 (by rfl) m_Draw k_Draw b_Draw .nil pass0 (pa_cons (pv 0) (pa_cons pe_int pa_nil)))) (pa_cons (pe_call G_Draw hr1 (by rfl) m_Draw k_Draw b_Draw .nil pass0 (pa_cons (pv 0) (pa_cons (pe_op op_add (pe_op op_pow pe_int pe_int) pe_int) pa_nil))) pa_nil))) (pe_op op_sub (pv 4) pe_int) (fun _ _ => rfl)))) pss_nil)
    (pss_one (ps_expr (pe_bm PySem.F.plainAttrs_list PySem.F.slot_list_append PySem.F.type_list_append mt_append (pv 2) (pa_cons (pv 5) pa_nil))))))))
    (pss_one (ps_ret (pe_callTy call_tuple_of (by rfl) m_tuple PyProof.Rows.boot_tuple (pa_cons (pv 2) pa_nil)))))), ?_⟩
  refine ⟨Nat.zero_le _, fun ls hls => ?_⟩
  have L0 : DealL (upd H ls (.lst [])) d l ls [] := DealL.new D hls
  have o0 : Out d l H (upd H ls (.lst [])) := Out.of (same_new hls _)
  generalize upd H ls (.lst []) = H0 at L0 o0 ⊢
  refine ⟨_, rfl, n, rfl, by omega, by omega, for_rangeA (n := n.toNat) (fun i σ H1 => ∃ (cs : List Int) (v3 v4 v5 : Option V), σ = [some (.ref d), some (.int n), some (.ref ls), v3, v4, v5] ∧ DealL H1 d l ls (cs.map V.int) ∧ cs.length = i ∧ Out d l H H1)
    ⟨[], _, _, _, rfl, L0, rfl, o0⟩ ?_ ?_⟩
  · rintro D' i σ H1 hi ⟨cs, v3, v4, v5, rfl, L1, hcs, o1⟩
    refine ⟨_, rfl, d, l, 8, rfl, L1.deal, by decide, by decide, fun y H2 y0 y1 D2 o2 => ?_⟩
    have L2 := L1.out D2 o2
    refine ⟨_, rfl, d, l, 5, rfl, L2.deal, by decide, by decide, fun z1 H3 _ _ D3 o3 => ?_⟩
    have L3 := L2.out D3 o3
    refine ⟨_, rfl, d, l, 12, rfl, L3.deal, by decide, by decide, fun z2 H4 _ _ D4 o4 => ?_⟩
    have L4 := L3.out D4 o4
    have o14 : Out d l H H4 := o1.trans (o2.trans (o3.trans o4))
    refine ⟨by show 2 ≤ sizeLine; decide, fun p hp => ?_⟩
    have L5 := L4.same (same_new hp (.lst [.int z1, .int z2]))
    have o5 := o14.trans (Out.of (d := d) (l := l) (same_new hp (.lst [.int z1, .int z2])))
    have hp5 : upd H4 p (.lst [.int z1, .int z2]) p = some (.lst [.int z1, .int z2]) := upd_same
    generalize upd H4 p (.lst [.int z1, .int z2]) = H5 at L5 o5 hp5 ⊢
    refine ⟨_, rfl, rfl, .inr ⟨_, rfl, ?_⟩⟩
    obtain ⟨w1, e1, _⟩ := two_at (r := if decide (V.int y = V.int 5) = true then 1 else 0) (x := z1) (y := z2) (by split <;> decide) (by split <;> decide)
    refine ⟨p, _, _, _, rfl, rfl, SqL.of hp5, e1, ?_⟩
    refine ⟨_, rfl, _, _, rfl, rfl, _, rfl, ?_⟩
    refine ite2 (fun c => ?_) (fun c => ?_)
    · have hy : 5 < y := of_decide_eq_true c
      refine ⟨_, _, rfl, rfl, ⟨by decide, by decide, by decide⟩, _, rfl, d, l, 2, rfl, L5.deal, by decide, by decide, fun z3 H6 _ _ D6 o6 => ⟨_, _, rfl, rfl, ?_⟩⟩
      have L6 := L5.out D6 o6
      refine ⟨_, rfl, _, _, rfl, rfl, ⟨by decide, by decide, by decide⟩, _, _, rfl, rfl, d, l, 10 ^ Int.toNat 6 + 1, rfl, L6.deal, by decide, by decide, fun z4 H7 _ _ D7 o7 => ?_⟩
      have L7 := L6.out D7 o7
      refine ⟨by show 2 ≤ sizeLine; decide, fun p7 hp7 => ?_⟩
      refine ⟨_, rfl, _, _, rfl, rfl, ?_⟩
      obtain ⟨w2, e2, _⟩ := two_at (r := y - 6) (x := 10 ^ Int.toNat 6 - z3) (y := z4) (by omega) (by omega)
      refine ⟨p7, _, _, _, rfl, rfl, SqL.of upd_same, e2, ?_⟩
      have L8 := L7.same (same_new hp7 (.lst [.int (10 ^ Int.toNat 6 - z3), .int z4]))
      have o8 := o5.trans (o6.trans (o7.trans (Out.of (d := d) (l := l) (same_new hp7 (.lst [.int (10 ^ Int.toNat 6 - z3), .int z4])))))
      generalize upd H7 p7 (.lst [.int (10 ^ Int.toNat 6 - z3), .int z4]) = H8 at L8 o8 ⊢
      refine ⟨_, rfl, .inl ⟨rfl, _, SqL.of L8.lst⟩, _, rfl, ls, _, _, rfl, rfl, L8.lst, small1000 (by rw [List.length_map]; omega), ?_⟩
      refine ⟨cs ++ [w2], _, _, _, rfl, by rw [List.map_append]; exact L8.app _, by rw [List.length_append, hcs]; rfl, fun b o e h1 h2 => ?_⟩
      rw [upd_ne (ne_of_none e hls)]
      exact o8 b o e h1 h2
    · refine ⟨_, rfl, .inl ⟨rfl, _, SqL.of L5.lst⟩, _, rfl, ls, _, _, rfl, rfl, L5.lst, small1000 (by rw [List.length_map]; omega), ?_⟩
      refine ⟨cs ++ [w1], _, _, _, rfl, by rw [List.map_append]; exact L5.app _, by rw [List.length_append, hcs]; rfl, fun b o e h1 h2 => ?_⟩
      rw [upd_ne (ne_of_none e hls)]
      exact o5 b o e h1 h2
  · rintro σ H1 ⟨cs, v3, v4, v5, rfl, L1, hcs, o1⟩
    exact ⟨_, rfl, ls, _, rfl, .inl ⟨SqL.of L1.lst, fun u hu' => k u cs _ upd_same hcs (L1.deal.same (same_new hu' _)) (o1.trans (Out.of (same_new hu' _)))⟩⟩
theorem nd_Sum1 : (["_law_kind", "_law_deal_here"] : List Str).Nodup := by decide +kernel
theorem nd_Sum2 : (["_law_kind", "_law_deal_here"] : List Str).Nodup := by decide +kernel
theorem scSum : FnScope ["_law_deal_here", "_law_kinds"] ["_law_deal_here", "_law_kinds"] (defScope sSum) := ⟨rfl, rfl, rfl, by decide +kernel, rfl, by decide +kernel, by decide +kernel⟩
theorem ok_Sum {f : Addr} {fd : FuncData} (F : Fun K "_law_sum" "_law_sum" sSum f fd)
    {f_Draw : Addr} {d_Draw : FuncData} (G_Draw : FnOk P w K mg base CX0 1 f_Draw d_Draw ["_law_deal_here", "_law_many"] spDraw) (b_Draw : Binds K d_Draw ["_law_deal_here", "_law_many"] []) (k_Draw : PySem.W.keepIn K (.ref f_Draw) = true) (m_Draw : mg "_law_draw" = some (.ref f_Draw))
    (m_tuple : mg "tuple" = none) (m_range : mg "range" = none) :
    FnOk P w K mg base CX0 2 f fd ["_law_deal_here", "_law_kinds"] spSum := by
  refine F.ok scSum (fun vs H Q E h => ?_) (fun cdv A outer s H vs Q E hr h => ?_)
  · obtain ⟨d, l, n, rfl, _⟩ := h
    rfl
  obtain ⟨d, l, n, rfl, D, n0, n1, k⟩ := h
  have hu := hu_of hr
  have hr1 : Room 1 _ := hr.mono (by decide)
  refine ⟨_, (pss_one (ps_ret (pe_callTy call_tuple_of (by rfl) m_tuple PyProof.Rows.boot_tuple (pa_cons (pe_comp ["_law_kind", "_law_deal_here"] [none, some 0] (pi_range1 (by rfl) m_range (pa_cons (pv 1) pa_nil)) (fun _ _ _ _ => (pg_name (i := 0) (nd_Sum2) rfl (Or.inl rfl))) (fun _ _ _ _ => pf_nil) (fun _ _ _ _ => (pe_call G_Draw hr1 (by rfl) m_Draw k_Draw b_Draw .nil pass0 (pa_cons (pv 1) (pa_cons pe_int pa_nil))))) pa_nil)))), ?_⟩
  refine ⟨_, rfl, n, rfl, by omega, by omega, comp_range (fun i ys σ H2 => Deal H2 d l ∧ Out d l H H2 ∧ (∃ v, σ = [v, some (.ref d)]) ∧ ∃ ws : List Int, ys = ws.map V.int ∧ ws.length = i ∧ ∀ x ∈ ws, 0 ≤ x ∧ x ≤ 3) (small1000 (by omega)) ⟨D, Out.refl H, ⟨_, rfl⟩, [], rfl, rfl, fun _ z => nomatch z⟩
    (by rintro i ys σ H2 ⟨_, _, _, zs, e, e2, _⟩; rw [e, List.length_map]; omega) ?_ ?_⟩
  · rintro i ys σ H2 hi ⟨D2, o2, ⟨v, rfl⟩, ws, rfl, hl, h1⟩
    refine ⟨_, rfl, d, l, 4, rfl, D2, by decide, by decide, fun r H3 r0 r1 D3 o3 => ⟨D3, o2.trans o3, ⟨_, rfl⟩, ws ++ [r], by rw [List.map_append]; rfl, by rw [List.length_append, hl]; rfl, fun z hz => ?_⟩⟩
    rcases List.mem_append.mp hz with q | q
    · exact h1 z q
    · have e : z = r := by simpa using q
      rw [e]; omega
  · rintro ys σ H2 ⟨D2, o2, _, ws, rfl, hl, h1⟩ p hp
    exact ⟨p, _, rfl, .inl ⟨SqL.of upd_same, fun u hu' => k u ws _ upd_same hl h1 (D2.same ((same_new hp _).trans (same_new hu' _))) (o2.trans (Out.of ((same_new hp _).trans (same_new hu' _))))⟩⟩
theorem nd_LNum1 : (["_law_count", "_law_heavy"] : List Str).Nodup := by decide +kernel
theorem scLNum : FnScope ["_law_weights", "_law_crowd_here", "_law_low", "_law_high", "_law_come"] ["_law_weights", "_law_crowd_here", "_law_low", "_law_high"] (defScope sLNum) := ⟨rfl, rfl, rfl, by decide +kernel, rfl, by decide +kernel, by decide +kernel⟩
theorem ok_LNum {f : Addr} {fd : FuncData} (F : Fun K "_law_number" "_law_number" sLNum f fd)
    (m_sum : mg "sum" = none) (m_min : mg "min" = none) (m_max : mg "max" = none) (m_zip : mg "zip" = none) :
    FnOk P w K mg base CX0 1 f fd ["_law_weights", "_law_crowd_here", "_law_low", "_law_high"] spLNum := by
  refine F.ok scLNum (fun vs H Q E h => ?_) (fun cdv A outer s H vs Q E hr h => ?_)
  · obtain ⟨a, b, ws, cs, lo, hi, rfl, _⟩ := h
    rfl
  obtain ⟨a, b, ws, cs, lo, hi, rfl, ha, hb, W, k⟩ := h
  have hu := hu_of hr
  refine ⟨_, (pss_cons (ps_set (i := 4) scLNum.nd rfl (Or.inl rfl) (pe_callB call_sum (by rfl) m_sum PyProof.Rows.boot_sum (pa_cons (pe_comp ["_law_count", "_law_heavy"] [none, none] (pi_zip (by rfl) m_zip (pa_cons (pv 1) (pa_cons (pv 0) pa_nil))) (fun _ _ _ _ => (pgtK K (n := 2) rfl (pgs_cons (pg_name (i := 0) (nd_LNum1) rfl (Or.inl rfl)) (pgs_cons (pg_name (i := 1) (nd_LNum1) rfl (Or.inl rfl)) pgs_nil)))) (fun _ _ _ _ => pf_nil) (fun _ _ _ _ => (pe_op op_mul (pv 0) (pv 1)))) pa_nil)))
    (pss_one (ps_ret (pe_callB (call_min2 rfl) (by rfl) m_min PyProof.Rows.boot_min (pa_cons (pe_callB (call_max2 rfl) (by rfl) m_max PyProof.Rows.boot_max (pa_cons (pv 4) (pa_cons (pv 2) pa_nil))) (pa_cons (pv 3) pa_nil)))))), ?_⟩
  obtain ⟨hl, h3, hw⟩ := W
  refine ⟨_, rfl, _, rfl, ?_⟩
  refine ⟨b, a, rfl, ⟨_, SqT.of hb⟩, ⟨_, SqT.of ha⟩, comp_zip (xs := cs.map V.int) (ys := ws.map V.int) (fun i zs σ H2 => Same H H2 ∧ (∃ v1 v2, σ = [v1, v2]) ∧ zs = ((List.zipWith (· * ·) cs ws).take i).map V.int)
    (by rw [List.length_map]; exact small1000 (by omega)) (by rw [List.length_map, List.length_map]; omega) ⟨Same.refl _, ⟨_, _, rfl⟩, rfl⟩ (by rintro i zs σ H2 ⟨_, _, e⟩; rw [e, List.length_map, List.length_take]; omega) (by rintro i zs σ H2 _ ⟨e, _⟩; exact ⟨SqT.of (e _ _ hb), SqT.of (e _ _ ha)⟩) ?_ ?_⟩
  · rintro i x y zs σ H2 t hx hy ⟨s2, ⟨v1, v2, rfl⟩, rfl⟩ ht
    obtain ⟨x', rfl, hx'⟩ := ints_at hx
    obtain ⟨y', rfl, hy'⟩ := ints_at hy
    have hb := hw y' (List.mem_of_getElem? hy')
    refine ⟨t, _, rfl, SqT.of upd_same, rfl, _, _, rfl, _, _, rfl, rfl, ?_⟩
    refine ⟨_, rfl, _, rfl, _, _, rfl, rfl, .inr ⟨by omega, by omega⟩, s2.trans (same_new ht _), ⟨_, _, rfl⟩, ?_⟩
    have hz : (List.zipWith (· * ·) cs ws)[i]? = some (x' * y') := by rw [List.getElem?_zipWith, hx', hy']
    rw [take_snoc hz, List.map_append]
    rfl

  · rintro zs σ H2 ⟨s2, _, rfl⟩ l2 hl2
    have e : (List.zipWith (· * ·) cs ws).take (cs.map V.int).length = List.zipWith (· * ·) cs ws := by
      rw [List.take_of_length_le]
      rw [List.length_zipWith, List.length_map]
      omega
    rw [e]
    refine ⟨l2, List.zipWith (· * ·) cs ws, rfl, SqL.of upd_same, ?_⟩
    have kk := k _ (s2.trans (same_new hl2 (.lst ((List.zipWith (· * ·) cs ws).map V.int))))
    rw [dot_comm] at kk
    exact ⟨_, rfl, _, rfl, _, _, rfl, _, rfl, _, _, rfl, kk⟩
theorem nd_Name1 : (["_law_k", "_law_deal_here"] : List Str).Nodup := by decide +kernel
theorem scName : FnScope ["_law_deal_here", "_law_name_here", "_law_taken"] ["_law_deal_here"] (defScope sName) := ⟨rfl, rfl, rfl, by decide +kernel, rfl, by decide +kernel, by decide +kernel⟩
theorem ok_Name {f : Addr} {fd : FuncData} (F : Fun K "_law_name" "_law_name" sName f fd)
    {f_Draw : Addr} {d_Draw : FuncData} (G_Draw : FnOk P w K mg base CX0 1 f_Draw d_Draw ["_law_deal_here", "_law_many"] spDraw) (b_Draw : Binds K d_Draw ["_law_deal_here", "_law_many"] []) (k_Draw : PySem.W.keepIn K (.ref f_Draw) = true) (m_Draw : mg "_law_draw" = some (.ref f_Draw))
    (m_int : mg "int" = none) (m_range : mg "range" = none) :
    FnOk P w K mg base CX0 2 f fd ["_law_deal_here"] spName := by
  refine F.ok scName (fun vs H Q E h => ?_) (fun cdv A outer s H vs Q E hr h => ?_)
  · obtain ⟨d, l, rfl, _⟩ := h
    rfl
  obtain ⟨d, l, rfl, D, k⟩ := h
  have hu := hu_of hr
  have hr1 : Room 1 _ := hr.mono (by decide)
  refine ⟨_, (@pss_cons _ _ _ _ _ (ps_set (i := 1) scName.nd rfl (Or.inl rfl) (pe_bm PySem.F.plainAttrs_str PySem.F.slot_str_join PySem.F.type_str_join mt_join pe_str (pa_cons (pe_comp ["_law_k", "_law_deal_here"] [none, some 0] (pi_range1 (by rfl) m_range (pa_cons (pe_op op_add pe_int (pe_call G_Draw hr1 (by rfl) m_Draw k_Draw b_Draw .nil pass0 (pa_cons (pv 0) (pa_cons pe_int pa_nil)))) pa_nil)) (fun _ _ _ _ => (pg_name (i := 0) (nd_Name1) rfl (Or.inl rfl))) (fun _ _ _ _ => pf_nil) (fun _ _ _ _ => (pe_ix ix_str pe_str (pe_call G_Draw hr1 (by rfl) m_Draw k_Draw b_Draw .nil pass0 (pa_cons (pv 1) (pa_cons pe_int pa_nil))) (fun _ _ => rfl)))) pa_nil)))
    (@pss_cons _ _ _ _ _ (@ps_set _ _ 2 _ _ _ _ scName.nd rfl (Or.inl rfl) (@pe_lst _ _ _ _ (@pa_cons _ _ _ _ _ pe_str (@pa_cons _ _ _ _ _ pe_str (@pa_cons _ _ _ _ _ pe_str (@pa_cons _ _ _ _ _ pe_str (@pa_cons _ _ _ _ _ pe_str (@pa_cons _ _ _ _ _ pe_str (@pa_cons _ _ _ _ _ pe_str (@pa_cons _ _ _ _ _ pe_str (@pa_cons _ _ _ _ _ pe_str (@pa_cons _ _ _ _ _ pe_str (@pa_cons _ _ _ _ _ pe_str (@pa_cons _ _ _ _ _ pe_str pa_nil rfl) rfl) rfl) rfl) rfl) rfl) rfl) rfl) rfl) rfl) rfl) rfl)) rfl (Or.inl rfl))
    (@pss_one _ _ _ (ps_ret (pe_op op_add_str (pv 1) (pe_op op_rep_str pe_str (pe_callTy call_int1 (by rfl) m_int PyProof.Rows.boot_int (pa_cons (pe_cmpR op_in_seq (pv 1) (pv 2) rfl) pa_nil)))))))), ?_⟩
  refine ⟨rfl, _, rfl, d, l, 8, rfl, D, by decide, by decide, fun m H1 m0 m1 D1 o1 => ⟨_, _, rfl, rfl, ?_⟩⟩
  refine ⟨1 + m, rfl, by omega, by omega, comp_range (fun i ys σ H2 => Deal H2 d l ∧ Out d l H H2 ∧ (∃ v, σ = [v, some (.ref d)]) ∧ ∃ zs : List Str, ys = zs.map V.str ∧ zs.length = i ∧ ∀ z ∈ zs, z.length = 1) (small1000 (by omega)) ⟨D1, o1, ⟨_, rfl⟩, [], rfl, rfl, fun _ z => nomatch z⟩
    (by rintro i ys σ H2 ⟨_, _, _, zs, e, e2, _⟩; rw [e, List.length_map]; omega) ?_ ?_⟩
  · rintro i ys σ H2 hi ⟨D2, o2, ⟨v, rfl⟩, zs, rfl, hl, h1⟩
    refine ⟨_, rfl, d, l, 26, rfl, D2, by decide, by decide, fun r H3 r0 r1 D3 o3 => ?_⟩
    obtain ⟨c, hc⟩ := str_at (z := "abcdefghijklmnopqrstuvwxyz") r0 r1
    refine ⟨_, r, c, rfl, rfl, by decide, hc, D3, o2.trans o3, ⟨_, rfl⟩, zs ++ [⟨#[c]⟩], by rw [List.map_append]; rfl, by rw [List.length_append, hl]; rfl, fun z hz => ?_⟩
    rcases List.mem_append.mp hz with q | q
    · exact h1 z q
    · have e : z = ⟨#[c]⟩ := by simpa using q
      rw [e]; rfl
  rintro ys σ H2 ⟨D2, o2, _, zs, rfl, hl, h1⟩ p hp
  have hsm := ones_sum h1
  refine ⟨_, p, zs, rfl, rfl, SqL.of upd_same, by rw [hsm]; show zs.length + zs.length * 0 ≤ _; omega, ?_⟩
  have hj := join_len "" zs
  rw [hsm] at hj
  have e0 : ("" : Str).length = 0 := rfl
  rw [e0] at hj
  have D3 := D2.same (same_new hp (.lst (zs.map V.str)))
  have o3 := o2.trans (Out.of (d := d) (l := l) (same_new hp (.lst (zs.map V.str))))
  generalize upd H2 p (.lst (zs.map V.str)) = H3 at D3 o3 ⊢
  generalize Txt.join "" zs = nm at hj ⊢
  refine ⟨by show 12 ≤ sizeLine; decide, fun t ht => ?_⟩
  have D4 := D3.same (same_new ht (.lst [.str "kinds", .str "ladder", .str "flat", .str "choose", .str "first", .str "let", .str "tell", .str "when", .str "else", .str "times", .str "end", .str "of"]))
  have o4 := o3.trans (Out.of (d := d) (l := l) (same_new ht (.lst [.str "kinds", .str "ladder", .str "flat", .str "choose", .str "first", .str "let", .str "tell", .str "when", .str "else", .str "times", .str "end", .str "of"])))
  have ht4 : upd H3 t (.lst [.str "kinds", .str "ladder", .str "flat", .str "choose", .str "first", .str "let", .str "tell", .str "when", .str "else", .str "times", .str "end", .str "of"]) t = some (.lst (taken.map V.str)) := upd_same
  generalize upd H3 t (.lst [.str "kinds", .str "ladder", .str "flat", .str "choose", .str "first", .str "let", .str "tell", .str "when", .str "else", .str "times", .str "end", .str "of"]) = H4 at D4 o4 ht4 ⊢
  refine ⟨_, rfl, _, rfl, _, rfl, t, taken.map V.str, rfl, .inl (SqL.of ht4), rfl, flat_strs taken, .inr ⟨_, rfl, ?_⟩⟩
  generalize inV (V.str nm) (taken.map V.str) = bb
  refine ⟨_, _, rfl, rfl, rfl, ?_, ?_⟩
  · cases bb
    · exact .inl rfl
    · exact .inr rfl
  refine ⟨_, _, rfl, rfl, ?_, k _ _ D4 o4⟩
  have h2 : ∀ b : Int, (if b = 0 then Str.empty else ("q" : Str)).length ≤ 1 := fun b => by split <;> decide
  exact Nat.le_trans (Nat.add_le_add_left (h2 _) _) (Nat.le_of_lt (small1000 (by omega)))
end
end Mine
namespace Mine
open PySem L2
theorem all_mk {l : PySem.W.OpenLaw} {w : World} {K : PySem.W.Frag} {h : Heap} {mg : Str → Option Value} {fa f1 f2 f3 f4 f5 f6 f7 f8 f9 f10 f11 f12 f13 f14 f15 f16 f17 f18 f19 f20 f21 f22 f23 f24 f25 f26 f27 f28 f29 f30 f31 f32 f33 f34 f35 f36 : Addr} (X : K.In h) (G : h.Ns mainGlobals mg) (hfa : mg "law" = some (.ref fa))
    {od1 an1 od2 an2 od3 an3 od4 an4 od5 an5 od6 an6 od7 an7 od8 an8 od9 an9 od10 an10 od11 an11 od12 an12 od13 an13 od14 an14 od15 an15 od16 an16 od17 an17 od18 an18 od19 an19 od20 an20 od21 an21 od22 an22 od23 an23 od24 an24 od25 an25 od26 an26 od27 an27 od28 an28 od29 an29 od30 an30 od31 an31 od32 an32 od33 an33 od34 an34 od35 an35 od36 an36 : Option Addr} {sl1 sl2 sl3 sl4 sl5 sl6 sl7 sl8 sl9 sl10 sl11 sl12 sl13 sl14 sl15 sl16 sl17 sl18 sl19 sl20 sl21 sl22 sl23 sl24 sl25 sl26 sl27 sl28 sl29 sl30 sl31 sl32 sl33 sl34 sl35 sl36 : Array (Option Value)} {oc1 kV1 dc1 pm1 cd1 ct1 oc2 kV2 dc2 pm2 cd2 ct2 oc3 kV3 dc3 pm3 cd3 ct3 oc4 kV4 dc4 pm4 cd4 ct4 oc5 kV5 dc5 pm5 cd5 ct5 oc6 kV6 dc6 pm6 cd6 ct6 oc7 kV7 dc7 pm7 cd7 ct7 oc8 kV8 dc8 pm8 cd8 ct8 oc9 kV9 dc9 pm9 cd9 ct9 oc10 kV10 dc10 pm10 cd10 ct10 oc11 kV11 dc11 pm11 cd11 ct11 oc12 kV12 dc12 pm12 cd12 ct12 oc13 kV13 dc13 pm13 cd13 ct13 oc14 kV14 dc14 pm14 cd14 ct14 oc15 kV15 dc15 pm15 cd15 ct15 oc16 kV16 dc16 pm16 cd16 ct16 oc17 kV17 dc17 pm17 cd17 ct17 oc18 kV18 dc18 pm18 cd18 ct18 oc19 kV19 dc19 pm19 cd19 ct19 oc20 kV20 dc20 pm20 cd20 ct20 oc21 kV21 dc21 pm21 cd21 ct21 oc22 kV22 dc22 pm22 cd22 ct22 oc23 kV23 dc23 pm23 cd23 ct23 oc24 kV24 dc24 pm24 cd24 ct24 oc25 kV25 dc25 pm25 cd25 ct25 oc26 kV26 dc26 pm26 cd26 ct26 oc27 kV27 dc27 pm27 cd27 ct27 oc28 kV28 dc28 pm28 cd28 ct28 oc29 kV29 dc29 pm29 cd29 ct29 oc30 kV30 dc30 pm30 cd30 ct30 oc31 kV31 dc31 pm31 cd31 ct31 oc32 kV32 dc32 pm32 cd32 ct32 oc33 kV33 dc33 pm33 cd33 ct33 oc34 kV34 dc34 pm34 cd34 ct34 oc35 kV35 dc35 pm35 cd35 ct35 oc36 kV36 dc36 pm36 cd36 ct36 : Value}
    (a1 : PySem.W.nsIn K mainGlobals "has_one_sum" = some (some (.ref f1))) (l1 : K.lookup f1 = some ⟨oc1, od1, .func (PySem.W.fnOf "has_one_sum" "has_one_sum" (defArgs sOne) (defBody sOne) (defScope sOne) .none kV1 dc1 pm1 an1 cd1 ct1), sl1⟩) (c1 : PySem.W.codeIn K cd1 "has_one_sum" = true) (k1 : PySem.W.keepIn K (.ref f1) = true)
    (a2 : PySem.W.nsIn K mainGlobals "place_of_sums" = some (some (.ref f2))) (l2 : K.lookup f2 = some ⟨oc2, od2, .func (PySem.W.fnOf "place_of_sums" "place_of_sums" (defArgs sPlace) (defBody sPlace) (defScope sPlace) .none kV2 dc2 pm2 an2 cd2 ct2), sl2⟩) (c2 : PySem.W.codeIn K cd2 "place_of_sums" = true) (k2 : PySem.W.keepIn K (.ref f2) = true)
    (a3 : PySem.W.nsIn K mainGlobals "sums_of" = some (some (.ref f3))) (l3 : K.lookup f3 = some ⟨oc3, od3, .func (PySem.W.fnOf "sums_of" "sums_of" (defArgs sSums) (defBody sSums) (defScope sSums) .none kV3 dc3 pm3 an3 cd3 ct3), sl3⟩) (c3 : PySem.W.codeIn K cd3 "sums_of" = true) (k3 : PySem.W.keepIn K (.ref f3) = true)
    (a4 : PySem.W.nsIn K mainGlobals "range_of_sums" = some (some (.ref f4))) (l4 : K.lookup f4 = some ⟨oc4, od4, .func (PySem.W.fnOf "range_of_sums" "range_of_sums" (defArgs sRng) (defBody sRng) (defScope sRng) .none kV4 dc4 pm4 an4 cd4 ct4), sl4⟩) (c4 : PySem.W.codeIn K cd4 "range_of_sums" = true) (k4 : PySem.W.keepIn K (.ref f4) = true)
    (a5 : PySem.W.nsIn K mainGlobals "common_divisor" = some (some (.ref f5))) (l5 : K.lookup f5 = some ⟨oc5, od5, .func (PySem.W.fnOf "common_divisor" "common_divisor" (defArgs sGcd) (defBody sGcd) (defScope sGcd) .none kV5 dc5 pm5 an5 cd5 ct5), sl5⟩) (c5 : PySem.W.codeIn K cd5 "common_divisor" = true) (k5 : PySem.W.keepIn K (.ref f5) = true)
    (a6 : PySem.W.nsIn K mainGlobals "lowest" = some (some (.ref f6))) (l6 : K.lookup f6 = some ⟨oc6, od6, .func (PySem.W.fnOf "lowest" "lowest" (defArgs sLow) (defBody sLow) (defScope sLow) .none kV6 dc6 pm6 an6 cd6 ct6), sl6⟩) (c6 : PySem.W.codeIn K cd6 "lowest" = true) (k6 : PySem.W.keepIn K (.ref f6) = true)
    (a7 : PySem.W.nsIn K mainGlobals "added" = some (some (.ref f7))) (l7 : K.lookup f7 = some ⟨oc7, od7, .func (PySem.W.fnOf "added" "added" (defArgs sAdd) (defBody sAdd) (defScope sAdd) .none kV7 dc7 pm7 an7 cd7 ct7), sl7⟩) (c7 : PySem.W.codeIn K cd7 "added" = true) (k7 : PySem.W.keepIn K (.ref f7) = true)
    (a8 : PySem.W.nsIn K mainGlobals "times" = some (some (.ref f8))) (l8 : K.lookup f8 = some ⟨oc8, od8, .func (PySem.W.fnOf "times" "times" (defArgs sTimes) (defBody sTimes) (defScope sTimes) .none kV8 dc8 pm8 an8 cd8 ct8), sl8⟩) (c8 : PySem.W.codeIn K cd8 "times" = true) (k8 : PySem.W.keepIn K (.ref f8) = true)
    (a9 : PySem.W.nsIn K mainGlobals "minus" = some (some (.ref f9))) (l9 : K.lookup f9 = some ⟨oc9, od9, .func (PySem.W.fnOf "minus" "minus" (defArgs sMinus) (defBody sMinus) (defScope sMinus) .none kV9 dc9 pm9 an9 cd9 ct9), sl9⟩) (c9 : PySem.W.codeIn K cd9 "minus" = true) (k9 : PySem.W.keepIn K (.ref f9) = true)
    (a10 : PySem.W.nsIn K mainGlobals "power" = some (some (.ref f10))) (l10 : K.lookup f10 = some ⟨oc10, od10, .func (PySem.W.fnOf "power" "power" (defArgs sPow) (defBody sPow) (defScope sPow) .none kV10 dc10 pm10 an10 cd10 ct10), sl10⟩) (c10 : PySem.W.codeIn K cd10 "power" = true) (k10 : PySem.W.keepIn K (.ref f10) = true)
    (a11 : PySem.W.nsIn K mainGlobals "merged" = some (some (.ref f11))) (l11 : K.lookup f11 = some ⟨oc11, od11, .func (PySem.W.fnOf "merged" "merged" (defArgs sMerg) (defBody sMerg) (defScope sMerg) .none kV11 dc11 pm11 an11 cd11 ct11), sl11⟩) (c11 : PySem.W.codeIn K cd11 "merged" = true) (k11 : PySem.W.keepIn K (.ref f11) = true)
    (a12 : PySem.W.nsIn K mainGlobals "cut" = some (some (.ref f12))) (l12 : K.lookup f12 = some ⟨oc12, od12, .func (PySem.W.fnOf "cut" "cut" (defArgs sCut) (defBody sCut) (defScope sCut) .none kV12 dc12 pm12 an12 cd12 ct12), sl12⟩) (c12 : PySem.W.codeIn K cd12 "cut" = true) (k12 : PySem.W.keepIn K (.ref f12) = true)
    (a13 : PySem.W.nsIn K mainGlobals "added_up" = some (some (.ref f13))) (l13 : K.lookup f13 = some ⟨oc13, od13, .func (PySem.W.fnOf "added_up" "added_up" (defArgs sUp) (defBody sUp) (defScope sUp) .none kV13 dc13 pm13 an13 cd13 ct13), sl13⟩) (c13 : PySem.W.codeIn K cd13 "added_up" = true) (k13 : PySem.W.keepIn K (.ref f13) = true)
    (a14 : PySem.W.nsIn K mainGlobals "number_of" = some (some (.ref f14))) (l14 : K.lookup f14 = some ⟨oc14, od14, .func (PySem.W.fnOf "number_of" "number_of" (defArgs sNum) (defBody sNum) (defScope sNum) .none kV14 dc14 pm14 an14 cd14 ct14), sl14⟩) (c14 : PySem.W.codeIn K cd14 "number_of" = true) (k14 : PySem.W.keepIn K (.ref f14) = true)
    (a15 : PySem.W.nsIn K mainGlobals "share_of" = some (some (.ref f15))) (l15 : K.lookup f15 = some ⟨oc15, od15, .func (PySem.W.fnOf "share_of" "share_of" (defArgs sShare) (defBody sShare) (defScope sShare) .none kV15 dc15 pm15 an15 cd15 ct15), sl15⟩) (c15 : PySem.W.codeIn K cd15 "share_of" = true) (k15 : PySem.W.keepIn K (.ref f15) = true)
    (a16 : PySem.W.nsIn K mainGlobals "far_tail" = some (some (.ref f16))) (l16 : K.lookup f16 = some ⟨oc16, od16, .func (PySem.W.fnOf "far_tail" "far_tail" (defArgs sFar) (defBody sFar) (defScope sFar) .none kV16 dc16 pm16 an16 cd16 ct16), sl16⟩) (c16 : PySem.W.codeIn K cd16 "far_tail" = true) (k16 : PySem.W.keepIn K (.ref f16) = true)
    (a17 : PySem.W.nsIn K mainGlobals "tail_of" = some (some (.ref f17))) (l17 : K.lookup f17 = some ⟨oc17, od17, .func (PySem.W.fnOf "tail_of" "tail_of" (defArgs sTail) (defBody sTail) (defScope sTail) .none kV17 dc17 pm17 an17 cd17 ct17), sl17⟩) (c17 : PySem.W.codeIn K cd17 "tail_of" = true) (k17 : PySem.W.keepIn K (.ref f17) = true)
    (a18 : PySem.W.nsIn K mainGlobals "ladder_table" = some (some (.ref f18))) (l18 : K.lookup f18 = some ⟨oc18, od18, .func (PySem.W.fnOf "ladder_table" "ladder_table" (defArgs sLad) (defBody sLad) (defScope sLad) .none kV18 dc18 pm18 an18 cd18 ct18), sl18⟩) (c18 : PySem.W.codeIn K cd18 "ladder_table" = true) (k18 : PySem.W.keepIn K (.ref f18) = true)
    (a19 : PySem.W.nsIn K mainGlobals "share_from" = some (some (.ref f19))) (l19 : K.lookup f19 = some ⟨oc19, od19, .func (PySem.W.fnOf "share_from" "share_from" (defArgs sFrom) (defBody sFrom) (defScope sFrom) .none kV19 dc19 pm19 an19 cd19 ct19), sl19⟩) (c19 : PySem.W.codeIn K cd19 "share_from" = true) (k19 : PySem.W.keepIn K (.ref f19) = true)
    (a20 : PySem.W.nsIn K mainGlobals "first_table" = some (some (.ref f20))) (l20 : K.lookup f20 = some ⟨oc20, od20, .func (PySem.W.fnOf "first_table" "first_table" (defArgs sFirstT) (defBody sFirstT) (defScope sFirstT) .none kV20 dc20 pm20 an20 cd20 ct20), sl20⟩) (c20 : PySem.W.codeIn K cd20 "first_table" = true) (k20 : PySem.W.keepIn K (.ref f20) = true)
    (a21 : PySem.W.nsIn K mainGlobals "thrown" = some (some (.ref f21))) (l21 : K.lookup f21 = some ⟨oc21, od21, .func (PySem.W.fnOf "thrown" "thrown" (defArgs sThr) (defBody sThr) (defScope sThr) .none kV21 dc21 pm21 an21 cd21 ct21), sl21⟩) (c21 : PySem.W.codeIn K cd21 "thrown" = true) (k21 : PySem.W.keepIn K (.ref f21) = true)
    (a22 : PySem.W.nsIn K mainGlobals "_law_deal" = some (some (.ref f22))) (l22 : K.lookup f22 = some ⟨oc22, od22, .func (PySem.W.fnOf "_law_deal" "_law_deal" (defArgs sDeal) (defBody sDeal) (defScope sDeal) .none kV22 dc22 pm22 an22 cd22 ct22), sl22⟩) (c22 : PySem.W.codeIn K cd22 "_law_deal" = true) (k22 : PySem.W.keepIn K (.ref f22) = true)
    (a23 : PySem.W.nsIn K mainGlobals "_law_draw" = some (some (.ref f23))) (l23 : K.lookup f23 = some ⟨oc23, od23, .func (PySem.W.fnOf "_law_draw" "_law_draw" (defArgs sDraw) (defBody sDraw) (defScope sDraw) .none kV23 dc23 pm23 an23 cd23 ct23), sl23⟩) (c23 : PySem.W.codeIn K cd23 "_law_draw" = true) (k23 : PySem.W.keepIn K (.ref f23) = true)
    (a24 : PySem.W.nsIn K mainGlobals "_law_power" = some (some (.ref f24))) (l24 : K.lookup f24 = some ⟨oc24, od24, .func (PySem.W.fnOf "_law_power" "_law_power" (defArgs sLPow) (defBody sLPow) (defScope sLPow) .none kV24 dc24 pm24 an24 cd24 ct24), sl24⟩) (c24 : PySem.W.codeIn K cd24 "_law_power" = true) (k24 : PySem.W.keepIn K (.ref f24) = true)
    (a25 : PySem.W.nsIn K mainGlobals "_law_lowest" = some (some (.ref f25))) (l25 : K.lookup f25 = some ⟨oc25, od25, .func (PySem.W.fnOf "_law_lowest" "_law_lowest" (defArgs sLLow) (defBody sLLow) (defScope sLLow) .none kV25 dc25 pm25 an25 cd25 ct25), sl25⟩) (c25 : PySem.W.codeIn K cd25 "_law_lowest" = true) (k25 : PySem.W.keepIn K (.ref f25) = true)
    (a26 : PySem.W.nsIn K mainGlobals "_law_steepness" = some (some (.ref f26))) (l26 : K.lookup f26 = some ⟨oc26, od26, .func (PySem.W.fnOf "_law_steepness" "_law_steepness" (defArgs sSteep) (defBody sSteep) (defScope sSteep) .none kV26 dc26 pm26 an26 cd26 ct26), sl26⟩) (c26 : PySem.W.codeIn K cd26 "_law_steepness" = true) (k26 : PySem.W.keepIn K (.ref f26) = true)
    (a27 : PySem.W.nsIn K mainGlobals "_law_name" = some (some (.ref f27))) (l27 : K.lookup f27 = some ⟨oc27, od27, .func (PySem.W.fnOf "_law_name" "_law_name" (defArgs sName) (defBody sName) (defScope sName) .none kV27 dc27 pm27 an27 cd27 ct27), sl27⟩) (c27 : PySem.W.codeIn K cd27 "_law_name" = true) (k27 : PySem.W.keepIn K (.ref f27) = true)
    (a28 : PySem.W.nsIn K mainGlobals "_law_ends" = some (some (.ref f28))) (l28 : K.lookup f28 = some ⟨oc28, od28, .func (PySem.W.fnOf "_law_ends" "_law_ends" (defArgs sEnds) (defBody sEnds) (defScope sEnds) .none kV28 dc28 pm28 an28 cd28 ct28), sl28⟩) (c28 : PySem.W.codeIn K cd28 "_law_ends" = true) (k28 : PySem.W.keepIn K (.ref f28) = true)
    (a29 : PySem.W.nsIn K mainGlobals "_law_crowd" = some (some (.ref f29))) (l29 : K.lookup f29 = some ⟨oc29, od29, .func (PySem.W.fnOf "_law_crowd" "_law_crowd" (defArgs sCrowd) (defBody sCrowd) (defScope sCrowd) .none kV29 dc29 pm29 an29 cd29 ct29), sl29⟩) (c29 : PySem.W.codeIn K cd29 "_law_crowd" = true) (k29 : PySem.W.keepIn K (.ref f29) = true)
    (a30 : PySem.W.nsIn K mainGlobals "_law_sum" = some (some (.ref f30))) (l30 : K.lookup f30 = some ⟨oc30, od30, .func (PySem.W.fnOf "_law_sum" "_law_sum" (defArgs sSum) (defBody sSum) (defScope sSum) .none kV30 dc30 pm30 an30 cd30 ct30), sl30⟩) (c30 : PySem.W.codeIn K cd30 "_law_sum" = true) (k30 : PySem.W.keepIn K (.ref f30) = true)
    (a31 : PySem.W.nsIn K mainGlobals "_law_throw" = some (some (.ref f31))) (l31 : K.lookup f31 = some ⟨oc31, od31, .func (PySem.W.fnOf "_law_throw" "_law_throw" (defArgs sThrow) (defBody sThrow) (defScope sThrow) .none kV31 dc31 pm31 an31 cd31 ct31), sl31⟩) (c31 : PySem.W.codeIn K cd31 "_law_throw" = true) (k31 : PySem.W.keepIn K (.ref f31) = true)
    (a32 : PySem.W.nsIn K mainGlobals "_law_number" = some (some (.ref f32))) (l32 : K.lookup f32 = some ⟨oc32, od32, .func (PySem.W.fnOf "_law_number" "_law_number" (defArgs sLNum) (defBody sLNum) (defScope sLNum) .none kV32 dc32 pm32 an32 cd32 ct32), sl32⟩) (c32 : PySem.W.codeIn K cd32 "_law_number" = true) (k32 : PySem.W.keepIn K (.ref f32) = true)
    (a33 : PySem.W.nsIn K mainGlobals "_law_rungs" = some (some (.ref f33))) (l33 : K.lookup f33 = some ⟨oc33, od33, .func (PySem.W.fnOf "_law_rungs" "_law_rungs" (defArgs sRungs) (defBody sRungs) (defScope sRungs) .none kV33 dc33 pm33 an33 cd33 ct33), sl33⟩) (c33 : PySem.W.codeIn K cd33 "_law_rungs" = true) (k33 : PySem.W.keepIn K (.ref f33) = true)
    (a34 : PySem.W.nsIn K mainGlobals "_law_table" = some (some (.ref f34))) (l34 : K.lookup f34 = some ⟨oc34, od34, .func (PySem.W.fnOf "_law_table" "_law_table" (defArgs sTab) (defBody sTab) (defScope sTab) .none kV34 dc34 pm34 an34 cd34 ct34), sl34⟩) (c34 : PySem.W.codeIn K cd34 "_law_table" = true) (k34 : PySem.W.keepIn K (.ref f34) = true)
    (a35 : PySem.W.nsIn K mainGlobals "_law_first" = some (some (.ref f35))) (l35 : K.lookup f35 = some ⟨oc35, od35, .func (PySem.W.fnOf "_law_first" "_law_first" (defArgs sLFirst) (defBody sLFirst) (defScope sLFirst) .none kV35 dc35 pm35 an35 cd35 ct35), sl35⟩) (c35 : PySem.W.codeIn K cd35 "_law_first" = true) (k35 : PySem.W.keepIn K (.ref f35) = true)
    (a36 : PySem.W.nsIn K mainGlobals "law" = some (some (.ref f36))) (l36 : K.lookup f36 = some ⟨oc36, od36, .func (PySem.W.fnOf "law" "law" (defArgs sLaw) (defBody sLaw) (defScope sLaw) .none kV36 dc36 pm36 an36 cd36 ct36), sl36⟩) (c36 : PySem.W.codeIn K cd36 "law" = true) (k36 : PySem.W.keepIn K (.ref f36) = true)
    (z_range : PySem.W.nsIn K mainGlobals "range" = some none)
    (z_sorted : PySem.W.nsIn K mainGlobals "sorted" = some none)
    (z_tuple : PySem.W.nsIn K mainGlobals "tuple" = some none)
    (z_min : PySem.W.nsIn K mainGlobals "min" = some none)
    (z_max : PySem.W.nsIn K mainGlobals "max" = some none)
    (z_sum : PySem.W.nsIn K mainGlobals "sum" = some none)
    (z_zip : PySem.W.nsIn K mainGlobals "zip" = some none)
    (z_abs : PySem.W.nsIn K mainGlobals "abs" = some none)
    (z_enumerate : PySem.W.nsIn K mainGlobals "enumerate" = some none)
    (z_len : PySem.W.nsIn K mainGlobals "len" = some none)
    (z_list : PySem.W.nsIn K mainGlobals "list" = some none)
    (z_reversed : PySem.W.nsIn K mainGlobals "reversed" = some none)
    (z_int : PySem.W.nsIn K mainGlobals "int" = some none)
    (z_repr : PySem.W.nsIn K mainGlobals "repr" = some none) :
    ∃ fd : FuncData, (∀ (s : Shared) (v : Value), BindsTo s fd ⟨[v], []⟩ [("_law_script", v)]) ∧ ∀ base : Heap, K.In base → base.Ns mainGlobals mg → FnOk l.prog w K mg base CX0 9 fa fd ["_law_script"] (spLaw K) := by
  have e := hfa.symm.trans (PySem.W.mg_of X G a36)
  cases e
  have F1 := fun_mk (st := sOne) l1 c1 k1
  have b1 := F1.b1 (p1 := "sort") fun _ _ _ _ _ _ _ => rfl
  have m1 := PySem.W.mg_of X G a1
  have F2 := fun_mk (st := sPlace) l2 c2 k2
  have b2 := F2.b1 (p1 := "sort") fun _ _ _ _ _ _ _ => rfl
  have m2 := PySem.W.mg_of X G a2
  have F3 := fun_mk (st := sSums) l3 c3 k3
  have b3 := F3.b1 (p1 := "row") fun _ _ _ _ _ _ _ => rfl
  have m3 := PySem.W.mg_of X G a3
  have F4 := fun_mk (st := sRng) l4 c4 k4
  have b4 := F4.b1 (p1 := "row") fun _ _ _ _ _ _ _ => rfl
  have m4 := PySem.W.mg_of X G a4
  have F5 := fun_mk (st := sGcd) l5 c5 k5
  have b5 := F5.b2 (p1 := "one") (p2 := "other") fun _ _ _ _ _ _ _ _ => rfl
  have m5 := PySem.W.mg_of X G a5
  have F6 := fun_mk (st := sLow) l6 c6 k6
  have b6 := F6.b2 (p1 := "top") (p2 := "bottom") fun _ _ _ _ _ _ _ _ => rfl
  have m6 := PySem.W.mg_of X G a6
  have F7 := fun_mk (st := sAdd) l7 c7 k7
  have b7 := F7.b2 (p1 := "one") (p2 := "other") fun _ _ _ _ _ _ _ _ => rfl
  have m7 := PySem.W.mg_of X G a7
  have F8 := fun_mk (st := sTimes) l8 c8 k8
  have b8 := F8.b2 (p1 := "one") (p2 := "other") fun _ _ _ _ _ _ _ _ => rfl
  have m8 := PySem.W.mg_of X G a8
  have F9 := fun_mk (st := sMinus) l9 c9 k9
  have b9 := F9.b2 (p1 := "one") (p2 := "other") fun _ _ _ _ _ _ _ _ => rfl
  have m9 := PySem.W.mg_of X G a9
  have F10 := fun_mk (st := sPow) l10 c10 k10
  have b10 := F10.b2 (p1 := "one") (p2 := "k") fun _ _ _ _ _ _ _ _ => rfl
  have m10 := PySem.W.mg_of X G a10
  have F11 := fun_mk (st := sMerg) l11 c11 k11
  have b11 := F11.b1 (p1 := "pairs") fun _ _ _ _ _ _ _ => rfl
  have m11 := PySem.W.mg_of X G a11
  have F12 := fun_mk (st := sCut) l12 c12 k12
  have b12 := F12.b3 (p1 := "number") (p2 := "low") (p3 := "high") fun _ _ _ _ _ _ _ _ _ => rfl
  have m12 := PySem.W.mg_of X G a12
  have F13 := fun_mk (st := sUp) l13 c13 k13
  have b13 := F13.b2 (p1 := "weights") (p2 := "crowd") fun _ _ _ _ _ _ _ _ => rfl
  have m13 := PySem.W.mg_of X G a13
  have F14 := fun_mk (st := sNum) l14 c14 k14
  have b14 := F14.b2 (p1 := "row") (p2 := "crowd") fun _ _ _ _ _ _ _ _ => rfl
  have m14 := PySem.W.mg_of X G a14
  have F15 := fun_mk (st := sShare) l15 c15 k15
  have b15 := F15.b2 (p1 := "steepness") (p2 := "k") fun _ _ _ _ _ _ _ _ => rfl
  have m15 := PySem.W.mg_of X G a15
  have F16 := fun_mk (st := sFar) l16 c16 k16
  have b16 := F16.b2 (p1 := "steepness") (p2 := "k") fun _ _ _ _ _ _ _ _ => rfl
  have m16 := PySem.W.mg_of X G a16
  have F17 := fun_mk (st := sTail) l17 c17 k17
  have b17 := F17.b2 (p1 := "steepness") (p2 := "k") fun _ _ _ _ _ _ _ _ => rfl
  have m17 := PySem.W.mg_of X G a17
  have F18 := fun_mk (st := sLad) l18 c18 k18
  have b18 := F18.b4 (p1 := "number") (p2 := "steepness") (p3 := "low") (p4 := "high") fun _ _ _ _ _ _ _ _ _ _ => rfl
  have m18 := PySem.W.mg_of X G a18
  have F19 := fun_mk (st := sFrom) l19 c19 k19
  have b19 := F19.b5 (p1 := "mark") (p2 := "number") (p3 := "steepness") (p4 := "low") (p5 := "high") fun _ _ _ _ _ _ _ _ _ _ _ => rfl
  have m19 := PySem.W.mg_of X G a19
  have F20 := fun_mk (st := sFirstT) l20 c20 k20
  have b20 := F20.b2 (p1 := "row") (p2 := "crowd") fun _ _ _ _ _ _ _ _ => rfl
  have m20 := PySem.W.mg_of X G a20
  have F21 := fun_mk (st := sThr) l21 c21 k21
  have b21 := F21.b2 (p1 := "row") (p2 := "crowd") fun _ _ _ _ _ _ _ _ => rfl
  have m21 := PySem.W.mg_of X G a21
  have F22 := fun_mk (st := sDeal) l22 c22 k22
  have b22 := F22.b2 (p1 := "_law_script") (p2 := "_law_base") fun _ _ _ _ _ _ _ _ => rfl
  have m22 := PySem.W.mg_of X G a22
  have F23 := fun_mk (st := sDraw) l23 c23 k23
  have b23 := F23.b2 (p1 := "_law_deal_here") (p2 := "_law_many") fun _ _ _ _ _ _ _ _ => rfl
  have m23 := PySem.W.mg_of X G a23
  have F24 := fun_mk (st := sLPow) l24 c24 k24
  have b24 := F24.b2 (p1 := "_law_number_here") (p2 := "_law_many") fun _ _ _ _ _ _ _ _ => rfl
  have m24 := PySem.W.mg_of X G a24
  have F25 := fun_mk (st := sLLow) l25 c25 k25
  have b25 := F25.b2 (p1 := "_law_top") (p2 := "_law_bottom") fun _ _ _ _ _ _ _ _ => rfl
  have m25 := PySem.W.mg_of X G a25
  have F26 := fun_mk (st := sSteep) l26 c26 k26
  have b26 := F26.b2 (p1 := "_law_deal_here") (p2 := "_law_half") fun _ _ _ _ _ _ _ _ => rfl
  have m26 := PySem.W.mg_of X G a26
  have F27 := fun_mk (st := sName) l27 c27 k27
  have b27 := F27.b1 (p1 := "_law_deal_here") fun _ _ _ _ _ _ _ => rfl
  have m27 := PySem.W.mg_of X G a27
  have F28 := fun_mk (st := sEnds) l28 c28 k28
  have b28 := F28.b2 (p1 := "_law_deal_here") (p2 := "_law_least") fun _ _ _ _ _ _ _ _ => rfl
  have m28 := PySem.W.mg_of X G a28
  have F29 := fun_mk (st := sCrowd) l29 c29 k29
  have b29 := F29.b2 (p1 := "_law_deal_here") (p2 := "_law_kinds") fun _ _ _ _ _ _ _ _ => rfl
  have m29 := PySem.W.mg_of X G a29
  have F30 := fun_mk (st := sSum) l30 c30 k30
  have b30 := F30.b2 (p1 := "_law_deal_here") (p2 := "_law_kinds") fun _ _ _ _ _ _ _ _ => rfl
  have m30 := PySem.W.mg_of X G a30
  have F31 := fun_mk (st := sThrow) l31 c31 k31
  have b31 := F31.b3 (p1 := "_law_deal_here") (p2 := "_law_word") (p3 := "_law_kinds") fun _ _ _ _ _ _ _ _ _ => rfl
  have m31 := PySem.W.mg_of X G a31
  have F32 := fun_mk (st := sLNum) l32 c32 k32
  have b32 := F32.b4 (p1 := "_law_weights") (p2 := "_law_crowd_here") (p3 := "_law_low") (p4 := "_law_high") fun _ _ _ _ _ _ _ _ _ _ => rfl
  have m32 := PySem.W.mg_of X G a32
  have F33 := fun_mk (st := sRungs) l33 c33 k33
  have b33 := F33.b4 (p1 := "_law_steepness_here") (p2 := "_law_n") (p3 := "_law_low") (p4 := "_law_high") fun _ _ _ _ _ _ _ _ _ _ => rfl
  have m33 := PySem.W.mg_of X G a33
  have F34 := fun_mk (st := sTab) l34 c34 k34
  have b34 := F34.b3 (p1 := "_law_shares") (p2 := "_law_bottom") (p3 := "_law_first_here") fun _ _ _ _ _ _ _ _ _ => rfl
  have m34 := PySem.W.mg_of X G a34
  have F35 := fun_mk (st := sLFirst) l35 c35 k35
  have b35 := F35.b2 (p1 := "_law_row") (p2 := "_law_crowd_here") fun _ _ _ _ _ _ _ _ => rfl
  have m35 := PySem.W.mg_of X G a35
  have F36 := fun_mk (st := sLaw) l36 c36 k36
  have y_range := PySem.W.mg_none_of X G z_range
  have y_sorted := PySem.W.mg_none_of X G z_sorted
  have y_tuple := PySem.W.mg_none_of X G z_tuple
  have y_min := PySem.W.mg_none_of X G z_min
  have y_max := PySem.W.mg_none_of X G z_max
  have y_sum := PySem.W.mg_none_of X G z_sum
  have y_zip := PySem.W.mg_none_of X G z_zip
  have y_abs := PySem.W.mg_none_of X G z_abs
  have y_enumerate := PySem.W.mg_none_of X G z_enumerate
  have y_len := PySem.W.mg_none_of X G z_len
  have y_list := PySem.W.mg_none_of X G z_list
  have y_reversed := PySem.W.mg_none_of X G z_reversed
  have y_int := PySem.W.mg_none_of X G z_int
  have y_repr := PySem.W.mg_none_of X G z_repr
  refine ⟨PySem.W.fnOf "law" "law" (defArgs sLaw) (defBody sLaw) (defScope sLaw) .none kV36 dc36 pm36 an36 cd36 ct36, fun s v => .of_eq rfl, fun base _ _ => ?_⟩
  have G1 := ok_One (P := l.prog) (w := w) (mg := mg) (base := base) F1  
  have G2 := ok_Place (P := l.prog) (w := w) (mg := mg) (base := base) F2  
  have G3 := ok_Sums (P := l.prog) (w := w) (mg := mg) (base := base) F3 G2 b2 k2 m2 G1 b1 k1 m1 
  have G4 := ok_Rng (P := l.prog) (w := w) (mg := mg) (base := base) F4  
  have G5 := ok_Gcd (P := l.prog) (w := w) (mg := mg) (base := base) F5  
  have G6 := ok_Low (P := l.prog) (w := w) (mg := mg) (base := base) F6 G5 b5 k5 m5 
  have G7 := ok_Add (P := l.prog) (w := w) (mg := mg) (base := base) F7 G6 b6 k6 m6 
  have G8 := ok_Times (P := l.prog) (w := w) (mg := mg) (base := base) F8 G6 b6 k6 m6 
  have G9 := ok_Minus (P := l.prog) (w := w) (mg := mg) (base := base) F9 G6 b6 k6 m6 
  have G10 := ok_Pow (P := l.prog) (w := w) (mg := mg) (base := base) F10  y_range
  have G11 := ok_Merg (P := l.prog) (w := w) (mg := mg) (base := base) F11 G7 b7 k7 m7 y_sorted y_tuple
  have G12 := ok_Cut (P := l.prog) (w := w) (mg := mg) (base := base) F12  y_min y_max
  have G13 := ok_Up (P := l.prog) (w := w) (mg := mg) (base := base) F13  y_sum y_zip
  have G14 := ok_Num (P := l.prog) (w := w) (mg := mg) (base := base) F14 G4 b4 k4 m4 G12 b12 k12 m12 G13 b13 k13 m13 G3 b3 k3 m3 y_tuple
  have G15 := ok_Share (P := l.prog) (w := w) (mg := mg) (base := base) F15 G8 b8 k8 m8 G10 b10 k10 m10 y_abs
  have G16 := ok_Far (P := l.prog) (w := w) (mg := mg) (base := base) F16 G8 b8 k8 m8 G10 b10 k10 m10 
  have G17 := ok_Tail (P := l.prog) (w := w) (mg := mg) (base := base) F17 G9 b9 k9 m9 G16 b16 k16 m16 
  have G18 := ok_Lad (P := l.prog) (w := w) (mg := mg) (base := base) F18 G17 b17 k17 m17 G15 b15 k15 m15 y_tuple y_range
  have G19 := ok_From (P := l.prog) (w := w) (mg := mg) (base := base) F19 G17 b17 k17 m17 
  have G20 := ok_FirstT (P := l.prog) (w := w) (mg := mg) (base := base) F20 G14 b14 k14 m14 G18 b18 k18 m18 G11 b11 k11 m11 G19 b19 k19 m19 G8 b8 k8 m8 G9 b9 k9 m9 y_enumerate y_len
  have G21 := ok_Thr (P := l.prog) (w := w) (mg := mg) (base := base) F21 G14 b14 k14 m14 G18 b18 k18 m18 G20 b20 k20 m20 
  have G22 := ok_deal (P := l.prog) (w := w) (mg := mg) (base := base) F22 y_max y_reversed y_list
  have G23 := ok_draw (P := l.prog) (w := w) (mg := mg) (base := base) F23 y_len
  have G24 := ok_LPow (P := l.prog) (w := w) (mg := mg) (base := base) F24  y_range
  have G25 := ok_LLow (P := l.prog) (w := w) (mg := mg) (base := base) F25  
  have G26 := ok_Steep (P := l.prog) (w := w) (mg := mg) (base := base) F26 G25 b25 k25 m25 G23 b23 k23 m23 y_int
  have G27 := ok_Name (P := l.prog) (w := w) (mg := mg) (base := base) F27 G23 b23 k23 m23 y_int y_range
  have G28 := ok_Ends (P := l.prog) (w := w) (mg := mg) (base := base) F28 G23 b23 k23 m23 
  have G29 := ok_Crowd (P := l.prog) (w := w) (mg := mg) (base := base) F29 G23 b23 k23 m23 y_range y_tuple y_int
  have G30 := ok_Sum (P := l.prog) (w := w) (mg := mg) (base := base) F30 G23 b23 k23 m23 y_tuple y_range
  have G31 := ok_Throw (P := l.prog) (w := w) (mg := mg) (base := base) F31 G28 b28 k28 m28 G27 b27 k27 m27 G23 b23 k23 m23 G26 b26 k26 m26 G30 b30 k30 m30 y_tuple y_int y_range
  have G32 := ok_LNum (P := l.prog) (w := w) (mg := mg) (base := base) F32  y_sum y_min y_max y_zip
  have G33 := ok_Rungs (P := l.prog) (w := w) (mg := mg) (base := base) F33 G24 b24 k24 m24 y_range y_max y_int
  have G34 := ok_Tab (P := l.prog) (w := w) (mg := mg) (base := base) F34 G25 b25 k25 m25 y_enumerate y_tuple
  have G35 := ok_LFirst (P := l.prog) (w := w) (mg := mg) (base := base) F35 G33 b33 k33 m33 G32 b32 k32 m32 y_enumerate y_len y_sum
  exact ok_Law F36 G22 b22 k22 m22 G31 b31 k31 m31 G29 b29 k29 m29 G35 b35 k35 m35 G23 b23 k23 m23 G32 b32 k32 m32 G34 b34 k34 m34 G14 b14 k14 m14 G21 b21 k21 m21 y_range y_tuple y_list y_reversed y_repr
theorem walk {l : PySem.W.OpenLaw} {q : Program} {loose : List Str} {XP : (Str → Option Value) → Heap → Prop} {YP : World → Heap → Prop} {d : DefRec} {K : Params → PySem.W.Frag} (hn : l.most = some 63) (hdf : d.params.defaults = [])
    (hY : ∀ (w : World) (h : Heap), YP w h → (K w.params).In h)
    (F : ∀ (w : World) (mg : Str → Option Value) (fa : Addr) (h : Heap), (K w.params).In h → h.Ns mainGlobals mg → mg d.name = some (.ref fa) →
      ∃ fd : FuncData, (∀ (s : Shared) (u : Value), BindsTo s fd ⟨[u], []⟩ [("_law_script", u)]) ∧ ∀ base : Heap, (K w.params).In base → base.Ns mainGlobals mg → FnOk l.prog w (K w.params) mg base CX0 9 fa fd ["_law_script"] (spLaw (K w.params))) :
    PySem.W.WalkO q loose XP YP l.row.toRowW d [] (fun f vs => PySem.call f vs) :=
  L2.walk_of (n := 63) (k := 9) (x := "_law_script") (CX := fun _ => CX0) (sp := fun w => spLaw (K w.params)) hn (by decide) hdf ⟨rfl, by decide, by decide, rfl⟩ hY F (fun _ _ a ns hl _ hS => ⟨a, ns, rfl, hS, hl, fun _ => rfl⟩) fun _ _ _ _ _ z => z
end Mine
open PySem PySem.W PyProof.Rows
set_option maxRecDepth 100000 in
set_option maxHeartbeats 0 in
theorem PySem.Challenge.cw_pairedthrows_k22_first_above_a_mark_holds : PySem.Challenge.rw_pairedthrows_k22_first_above_a_mark.Holds := by
  w_on; o_law; k_head; (case hw => w_witness2)
  k_fill
  refine Mine.walk (l := PySem.Challenge.rw_pairedthrows_k22_first_above_a_mark) rfl rfl (fun w h Y => PySem.W.kIn_of Y) ?F
  case F =>
    intro w mg fa h KX G hmg
    refine' Mine.all_mk KX G hmg ?a1 ?l1 ?c1 ?k1 ?a2 ?l2 ?c2 ?k2 ?a3 ?l3 ?c3 ?k3 ?a4 ?l4 ?c4 ?k4 ?a5 ?l5 ?c5 ?k5 ?a6 ?l6 ?c6 ?k6 ?a7 ?l7 ?c7 ?k7 ?a8 ?l8 ?c8 ?k8 ?a9 ?l9 ?c9 ?k9 ?a10 ?l10 ?c10 ?k10 ?a11 ?l11 ?c11 ?k11 ?a12 ?l12 ?c12 ?k12 ?a13 ?l13 ?c13 ?k13 ?a14 ?l14 ?c14 ?k14 ?a15 ?l15 ?c15 ?k15 ?a16 ?l16 ?c16 ?k16 ?a17 ?l17 ?c17 ?k17 ?a18 ?l18 ?c18 ?k18 ?a19 ?l19 ?c19 ?k19 ?a20 ?l20 ?c20 ?k20 ?a21 ?l21 ?c21 ?k21 ?a22 ?l22 ?c22 ?k22 ?a23 ?l23 ?c23 ?k23 ?a24 ?l24 ?c24 ?k24 ?a25 ?l25 ?c25 ?k25 ?a26 ?l26 ?c26 ?k26 ?a27 ?l27 ?c27 ?k27 ?a28 ?l28 ?c28 ?k28 ?a29 ?l29 ?c29 ?k29 ?a30 ?l30 ?c30 ?k30 ?a31 ?l31 ?c31 ?k31 ?a32 ?l32 ?c32 ?k32 ?a33 ?l33 ?c33 ?k33 ?a34 ?l34 ?c34 ?k34 ?a35 ?l35 ?c35 ?k35 ?a36 ?l36 ?c36 ?k36 ?z_range ?z_sorted ?z_tuple ?z_min ?z_max ?z_sum ?z_zip ?z_abs ?z_enumerate ?z_len ?z_list ?z_reversed ?z_int ?z_repr
    (case a1 => k_is); (case l1 => k_is); (case c1 => k_is); (case k1 => k_is); (case a2 => k_is); (case l2 => k_is)
    (case c2 => k_is); (case k2 => k_is); (case a3 => k_is); (case l3 => k_is); (case c3 => k_is); (case k3 => k_is)
    (case a4 => k_is); (case l4 => k_is); (case c4 => k_is); (case k4 => k_is); (case a5 => k_is); (case l5 => k_is)
    (case c5 => k_is); (case k5 => k_is); (case a6 => k_is); (case l6 => k_is); (case c6 => k_is); (case k6 => k_is)
    (case a7 => k_is); (case l7 => k_is); (case c7 => k_is); (case k7 => k_is); (case a8 => k_is); (case l8 => k_is)
    (case c8 => k_is); (case k8 => k_is); (case a9 => k_is); (case l9 => k_is); (case c9 => k_is); (case k9 => k_is)
    (case a10 => k_is); (case l10 => k_is); (case c10 => k_is); (case k10 => k_is); (case a11 => k_is); (case l11 => k_is)
    (case c11 => k_is); (case k11 => k_is); (case a12 => k_is); (case l12 => k_is); (case c12 => k_is); (case k12 => k_is)
    (case a13 => k_is); (case l13 => k_is); (case c13 => k_is); (case k13 => k_is); (case a14 => k_is); (case l14 => k_is)
    (case c14 => k_is); (case k14 => k_is); (case a15 => k_is); (case l15 => k_is); (case c15 => k_is); (case k15 => k_is)
    (case a16 => k_is); (case l16 => k_is); (case c16 => k_is); (case k16 => k_is); (case a17 => k_is); (case l17 => k_is)
    (case c17 => k_is); (case k17 => k_is); (case a18 => k_is); (case l18 => k_is); (case c18 => k_is); (case k18 => k_is)
    (case a19 => k_is); (case l19 => k_is); (case c19 => k_is); (case k19 => k_is); (case a20 => k_is); (case l20 => k_is)
    (case c20 => k_is); (case k20 => k_is); (case a21 => k_is); (case l21 => k_is); (case c21 => k_is); (case k21 => k_is)
    (case a22 => k_is); (case l22 => k_is); (case c22 => k_is); (case k22 => k_is); (case a23 => k_is); (case l23 => k_is)
    (case c23 => k_is); (case k23 => k_is); (case a24 => k_is); (case l24 => k_is); (case c24 => k_is); (case k24 => k_is)
    (case a25 => k_is); (case l25 => k_is); (case c25 => k_is); (case k25 => k_is); (case a26 => k_is); (case l26 => k_is)
    (case c26 => k_is); (case k26 => k_is); (case a27 => k_is); (case l27 => k_is); (case c27 => k_is); (case k27 => k_is)
    (case a28 => k_is); (case l28 => k_is); (case c28 => k_is); (case k28 => k_is); (case a29 => k_is); (case l29 => k_is)
    (case c29 => k_is); (case k29 => k_is); (case a30 => k_is); (case l30 => k_is); (case c30 => k_is); (case k30 => k_is)
    (case a31 => k_is); (case l31 => k_is); (case c31 => k_is); (case k31 => k_is); (case a32 => k_is); (case l32 => k_is)
    (case c32 => k_is); (case k32 => k_is); (case a33 => k_is); (case l33 => k_is); (case c33 => k_is); (case k33 => k_is)
    (case a34 => k_is); (case l34 => k_is); (case c34 => k_is); (case k34 => k_is); (case a35 => k_is); (case l35 => k_is)
    (case c35 => k_is); (case k35 => k_is); (case a36 => k_is); (case l36 => k_is); (case c36 => k_is); (case k36 => k_is)
    (case z_range => k_is); (case z_sorted => k_is); (case z_tuple => k_is); (case z_min => k_is); (case z_max => k_is); (case z_sum => k_is)
    (case z_zip => k_is); (case z_abs => k_is); (case z_enumerate => k_is); (case z_len => k_is); (case z_list => k_is); (case z_reversed => k_is)
    (case z_int => k_is); (case z_repr => k_is)
