import PyProof.Rows.All
import Wide.All
import OpenK.AllK
import Wide.FinOn
import Lean
import PyProof.EqAt
import PyProof.EqKinds
import PyProof.TupleCall
import PyProof.AutoListH
import PyProof.ExcClass3
import PyProof.StationsW
import PyProof.RulesTry
import PyProof.Rows.CatchOwn
import OpenK.KCall
import OpenK.KRaise
import PySem.Challenge.RW_pairedthrows_k34_rows_between_ladders
set_option Elab.async false
set_option linter.all false
set_option maxRecDepth 100000
/-! THE HAND LAYER, for ints, bools, texts, own classes, DICTS (int and text keys), calls, loops. Paste it whole ahead of your own text; what your proof does not reach may be deleted. -/
local macro_rules|`(tactic|omega)=>`(tactic|lia)
local macro_rules|`(def $i:declId $s:optDeclSig $v:declVal)=>`(noncomputable def $i:declId $s:optDeclSig $v:declVal)
noncomputable section
namespace L2
open PySem PySem.Spec PyProof.Rows

/-- a key: an int or a str -/
abbrev Key := Sum Int Str
def keyIs : Key → Value → Bool
  | .inl k, v => Value.isInt k v
  | .inr x, v => Value.isStrOf x v
def keyH (w : World) : Key → Int
  | .inl k => hashInt k
  | .inr x => hashStr w x
theorem keyIs_shape : ∀ {k : Key} {v : Value}, keyIs k v = true → (∃ i t, k = Sum.inl i ∧ v = Value.int i t) ∨ (∃ x t, k = Sum.inr x ∧ v = Value.str x t)
  | .inl i, v, h => by
    obtain ⟨t, e⟩ := Value.isInt_shape (k := i) (v := v) h
    exact .inl ⟨i, t, rfl, e⟩
  | .inr x, v, h => by
    obtain ⟨t, e⟩ := Value.isStrOf_shape (x := x) (v := v) h
    exact .inr ⟨x, t, rfl, e⟩
theorem keyIs_int (i : Int) (t : Tok) : keyIs (.inl i) (.int i t) = true := by simp [keyIs, Value.isInt]
theorem keyIs_str (x : Str) (t : Tok) : keyIs (.inr x) (.str x t) = true := by simp [keyIs, Value.isStrOf]
theorem key_ll (a b : Int) : decide ((Sum.inl a : Key) = Sum.inl b) = (a == b) := by
  by_cases e : a = b
  · subst e; simp
  · have h : ¬ (Sum.inl a : Key) = Sum.inl b := fun q => e (Sum.inl.inj q)
    rw [decide_eq_false h]
    exact (beq_eq_false_iff_ne.mpr e).symm
theorem key_rr (a b : Str) : decide ((Sum.inr a : Key) = Sum.inr b) = decide (a = b) := by
  by_cases e : a = b
  · subst e; simp
  · have h : ¬ (Sum.inr a : Key) = Sum.inr b := fun q => e (Sum.inr.inj q)
    rw [decide_eq_false h, decide_eq_false e]
theorem key_lr (a : Int) (b : Str) : decide ((Sum.inl a : Key) = Sum.inr b) = false := decide_eq_false (fun q => nomatch q)
theorem key_rl (a : Str) (b : Int) : decide ((Sum.inr a : Key) = Sum.inl b) = false := decide_eq_false (fun q => nomatch q)

def mixKind (prog : Program) (w : World) : PySem.KeyKind prog w Key where
  is := keyIs
  hash := keyH w
  inj := fun v a b ha hb => by
    rcases keyIs_shape ha with ⟨i, t, rfl, rfl⟩ | ⟨x, t, rfl, rfl⟩
    · rcases keyIs_shape hb with ⟨j, u, rfl, e⟩ | ⟨y, u, rfl, e⟩
      · injection e with e1 _; rw [e1]
      · exact nomatch e
    · rcases keyIs_shape hb with ⟨j, u, rfl, e⟩ | ⟨y, u, rfl, e⟩
      · exact nomatch e
      · injection e with e1 _; rw [e1]
  byValue := fun k v h => by
    rcases keyIs_shape h with ⟨i, t, rfl, rfl⟩ | ⟨x, t, rfl, rfl⟩ <;> rfl
  pyHash := fun hv h => by
    rcases keyIs_shape hv with ⟨i, t, rfl, rfl⟩ | ⟨x, t, rfl, rfl⟩
    · exact wpAny_pyHash_int h
    · exact wpAny_pyHash_str h
  eqBool := fun hu hv h => by
    rcases keyIs_shape hu with ⟨i, t, rfl, rfl⟩ | ⟨x, t, rfl, rfl⟩
    · rcases keyIs_shape hv with ⟨j, u, rfl, rfl⟩ | ⟨y, u, rfl, rfl⟩
      · rw [key_ll] at h; exact wpAny_eqBool_int h
      · rw [key_lr] at h; exact SeqAt.EqAt.int_str i t y u _ _ _ _ h
    · rcases keyIs_shape hv with ⟨j, u, rfl, rfl⟩ | ⟨y, u, rfl, rfl⟩
      · rw [key_rl] at h; exact SeqAt.EqAt.str_int x t j u _ _ _ _ h
      · rw [key_rr] at h; exact wpAny_eqBool_str h
  «strs» := fun k x t v h => by
    rcases keyIs_shape h with ⟨i, u, rfl, e⟩ | ⟨y, u, rfl, e⟩
    · exact nomatch e
    · injection e with e1 _
      subst e1
      cases v <;> rfl

theorem mixKind_int (prog : Program) (w : World) (i : Int) (t : Tok) : (mixKind prog w).is (.inl i) (.int i t) = true := keyIs_int i t
theorem mixKind_str (prog : Program) (w : World) (x : Str) (t : Tok) : (mixKind prog w).is (.inr x) (.str x t) = true := keyIs_str x t
end L2

namespace L2
open PySem PySem.Spec PyProof.Rows

/-- a value, without the heap -/
inductive V where
  | non | bl (b : Bool) | int (i : Int) | str (x : Str) | byt (b : Array UInt8) | flt (b : UInt64) | ref (a : Addr) | ty (n : String)
  deriving DecidableEq

def RelV : V → Value → Prop
  | .non, u => u = Value.none
  | .bl b, u => u = Value.bool b
  | .int i, u => ∃ t, u = Value.int i t
  | .str x, u => ∃ t, u = Value.str x t
  | .byt b, u => ∃ t, u = Value.bytes b t
  | .flt b, u => ∃ t, u = Value.float b t
  | .ref a, u => u = Value.ref a
  | .ty n, u => u = Value.type n

abbrev Vals : List V → List Value → Prop := Paired RelV
theorem Vals.length {xs : List V} {us : List Value} (r : Vals xs us) : xs.length = us.length := Paired.length r
theorem Vals.get : ∀ {xs : List V} {us : List Value} {i : Nat} {x : V}, Vals xs us → xs[i]? = some x → ∃ u, us[i]? = some u ∧ RelV x u
  | _, _, _, _, .nil, e => by simp at e
  | _, _, 0, _, .cons r _, e => by simp at e; subst e; exact ⟨_, rfl, r⟩
  | _, _, i + 1, x, .cons _ t, e => by
    obtain ⟨u, h1, h2⟩ := Vals.get (i := i) (x := x) t (by simpa using e)
    exact ⟨u, by simpa using h1, h2⟩
theorem Vals.append : ∀ {xs ys : List V} {us ws : List Value}, Vals xs us → Vals ys ws → Vals (xs ++ ys) (us ++ ws)
  | _, _, _, _, .nil, s => s
  | _, _, _, _, .cons r t, s => .cons r (Vals.append t s)
theorem Vals.take : ∀ {xs : List V} {us : List Value} (n : Nat), Vals xs us → Vals (xs.take n) (us.take n)
  | _, _, 0, _ => .nil
  | _, _, _ + 1, .nil => .nil
  | _, _, n + 1, .cons r t => .cons r (Vals.take n t)
theorem Vals.drop : ∀ {xs : List V} {us : List Value} (n : Nat), Vals xs us → Vals (xs.drop n) (us.drop n)
  | _, _, 0, r => r
  | _, _, _ + 1, .nil => .nil
  | _, _, n + 1, .cons _ t => Vals.drop n t
def RelO : Option V → Option Value → Prop
  | some v, some u => RelV v u
  | none, none => True
  | _, _ => False
def KV {κ : Type} : List (κ × V) → List (κ × Value) → Prop := Paired fun (p : κ × V) (q : κ × Value) => p.1 = q.1 ∧ RelV p.2 q.2

/-- a key of a dict (00_mix): an int or a text -/
def kV : Key → V
  | .inl i => .int i
  | .inr x => .str x

/-- what stands at a tracked address -/
inductive HO where
  /-- a list -/
  | lst (xs : List V)
  /-- a tuple (never changes) -/
  | tup (xs : List V)
  /-- a dict whose keys are ints and texts; one whose keys are tuples of ints and texts (the empty one is both) -/
  | dK (kvs : List (Key × V)) | dT (kvs : List (List Key × V))
  /-- a set of ints: its members, its size -/
  | set (S : Int → Bool) (n : Nat)
  /-- an instance of the class at C, its dict at dx, its attributes -/
  | ins (C dx : Addr) (fs : List (Str × V))
  /-- the dict of the instance at x -/
  | own (x : Addr)
  /-- the dict of an exception -/
  | xd (fs : List (Str × V))
  /-- a bound method, f of x -/
  | met (f x : Addr)
  /-- a range object lo, lo + 1, .. below hi -/
  | rng (lo hi : Int)
  /-- a thing that is known to the object (the script; a dict while a loop walks it): read, never written while it is so -/
  | frz (o : Obj) (u : HO)
  /-- a code object's table -/
  | tbl (ps : Array Value)
  /-- any other thing, by what is true of its one object (a def of one's own: SetO a S n := HO.ext fun h => ..) -/
  | ext (φ : Heap → Prop)

abbrev Hp := Addr → Option HO
def upd (H : Hp) (a : Addr) (o : HO) : Hp := fun b => if b = a then some o else H b
theorem upd_same {H : Hp} {a : Addr} {o : HO} : upd H a o a = some o := by unfold upd; rw [if_pos rfl]
theorem upd_ne {H : Hp} {a b : Addr} {o : HO} (h : b ≠ a) : upd H a o b = H b := by unfold upd; rw [if_neg h]
/-- two objects of different content stand apart -/
theorem ne_of {H : Hp} {a b : Addr} {o u : HO} (h : H a = some o) (h' : H b = some u) (d : o ≠ u) : a ≠ b := by
  intro e; subst e; rw [h] at h'; exact d (Option.some.inj h')
theorem ne_of_none {H : Hp} {a b : Addr} {o : HO} (h : H a = some o) (h' : H b = none) : a ≠ b := by
  intro e; subst e; rw [h] at h'; cases h'

/-- a tuple without a dict -/
def IsTupD (h : Heap) (a : Addr) (its : Array Value) : Prop := ∃ o, h.get? a = some o ∧ o.cls = .type "tuple" ∧ ∃ n, o.data = .seq its n ∧ o.dict = none
theorem IsTupD.is {h : Heap} {a : Addr} {its : Array Value} (x : IsTupD h a its) : IsTup h a its := let ⟨o, e, c, n, d, _⟩ := x; ⟨o, e, c, n, d⟩
theorem IsTupD.new (h : Heap) (its : Array Value) : IsTupD (h.push { cls := .type "tuple", data := .seq its }) h.objs.size its := ⟨_, Heap.get?_push_size _ rfl, rfl, _, rfl, rfl⟩
section
variable (P : Program) (w : World)
def ObjOk (H : Hp) (h : Heap) (a : Addr) : HO → Prop
  | .lst xs => xs.length ≤ sizeLine ∧ ∃ (its : List Value) (n : Nat), Vals xs its ∧ h.get? a = some { cls := .type "list", data := .seq its.toArray n }
  | .tup xs => xs.length ≤ sizeLine ∧ ∃ its : List Value, Vals xs its ∧ IsTupD h a its.toArray
  | .dK kvs => kvs.length ≤ sizeLine ∧ (a == sysModules) = false ∧ ∃ vs, KV kvs vs ∧ h.DictOf (mixKind P w) a vs
  | .dT kvs => kvs.length ≤ sizeLine ∧ (a == sysModules) = false ∧ ∃ xs : List (List Key × Addr × Value),
      Paired (fun (p : List Key × V) (q : List Key × Addr × Value) => p.1 = q.1 ∧ H q.2.1 = some (.tup (p.1.map kV)) ∧ RelV p.2 q.2.2) kvs xs ∧
      ∃ o es ep, h.get? a = some o ∧ o.ExactDict ∧ o.data = .dict es ep ∧ es.toList = xs.map (entryOfKey (tupleKind (mixKind P w))) ∧ (xs.map (·.1)).Nodup
  | .set S n => h.SetOf (intKind P w) a S n
  | .ins C dx fs => H dx = some (.own a) ∧ fs.length ≤ 1000 ∧ dx ≠ a ∧ h.get? a = some (PySem.W.instObj C dx) ∧
      ∃ mA, h.Ns1 dx mA ∧ (∀ f, RelO (fs.lookup f) (mA f)) ∧ PySem.Within mA (fs.map (·.1))
  | .own _ => ∃ o, h.get? a = some o
  | .xd fs => ∃ mA, h.Ns1 a mA ∧ ∀ f, RelO (fs.lookup f) (mA f)
  | .rng lo hi => ∃ t u v, h.get? a = some { cls := .type "range", data := .fields #[.int lo t, .int hi u, .int 1 v] }
  | .frz o u => h.get? a = some o ∧ ObjOk H h a u
  | .tbl ps => h.get? a = some { cls := .none, data := .fields ps }
  | .met f x => h.get? a = some (PySem.W.methodObj (.ref f) (.ref x))
  | .ext φ => φ h ∧ (∃ o, h.get? a = some o) ∧ ∀ h1 h2 : Heap, φ h1 → (∀ o, h1.get? a = some o → h2.get? a = some o) → φ h2
/-- the abstract heap is held -/
def HOk (H : Hp) (h : Heap) : Prop := ∀ a o, H a = some o → ObjOk P w H h a o
end

section
variable {P : Program} {w : World} {H H' : Hp} {h h' : Heap} {a : Addr} {o : HO}
theorem ObjOk.lt (x : ObjOk P w H h a o) : a < h.objs.size := by
  cases o with
  | lst xs => obtain ⟨_, _, _, _, e⟩ := x; exact Heap.lt_size e
  | tup xs => obtain ⟨_, _, _, p⟩ := x; exact p.is.lt
  | dK kvs => obtain ⟨_, _, _, _, o, _, _, e, _⟩ := x; exact Heap.lt_size e
  | dT kvs => obtain ⟨_, _, _, _, o, _, _, e, _⟩ := x; exact Heap.lt_size e
  | set S n => obtain ⟨o, _, _, _, e, _⟩ := x; exact Heap.lt_size e
  | ins C dx fs => obtain ⟨_, _, _, e, _⟩ := x; exact Heap.lt_size e
  | own y => obtain ⟨_, e⟩ := x; exact Heap.lt_size e
  | xd fs => obtain ⟨_, ⟨_, _, _, e, _⟩, _⟩ := x; exact Heap.lt_size e
  | rng lo hi => obtain ⟨_, _, _, e⟩ := x; exact Heap.lt_size e
  | frz ob u => obtain ⟨e, _⟩ := x; exact Heap.lt_size e
  | tbl ps => exact Heap.lt_size (show h.get? a = some _ from x)
  | met f y => exact Heap.lt_size (show h.get? a = some _ from x)
  | ext φ => obtain ⟨_, ⟨_, e⟩, _⟩ := x; exact Heap.lt_size e
theorem Paired.mapP {α β : Type} {F G : α → β → Prop} : ∀ {l₁ : List α} {l₂ : List β}, Paired F l₁ l₂ → (∀ a b, F a b → G a b) → Paired G l₁ l₂
  | _, _, .nil, _ => .nil
  | _, _, .cons r t, f => .cons (f _ _ r) (Paired.mapP t f)
/-- what an object's description leans on: its own object, its own dict, the tuples -/
theorem ObjOk.stay (x : ObjOk P w H h a o) (k : ∀ b u, (b = a ∨ H b = some (.own a)) → h.get? b = some u → h'.get? b = some u)
    (ho : ∀ b, H b = some (.own a) → H' b = some (.own a)) (ht : ∀ b xs, H b = some (.tup xs) → H' b = some (.tup xs)) : ObjOk P w H' h' a o := by
  induction o with
  | lst xs => obtain ⟨z, its, n, r, e⟩ := x; exact ⟨z, its, n, r, k _ _ (.inl rfl) e⟩
  | tup xs => obtain ⟨z, its, r, ob, e, c⟩ := x; exact ⟨z, its, r, ob, k _ _ (.inl rfl) e, c⟩
  | dK kvs => obtain ⟨z, y, vs, r, ob, es, ep, e, c⟩ := x; exact ⟨z, y, vs, r, ob, es, ep, k _ _ (.inl rfl) e, c⟩
  | dT kvs =>
    obtain ⟨z, y, xs, r, ob, es, ep, e, c⟩ := x
    exact ⟨z, y, xs, Paired.mapP r fun p q z => ⟨z.1, ht _ _ z.2.1, z.2.2⟩, ob, es, ep, k _ _ (.inl rfl) e, c⟩
  | set S n => obtain ⟨ob, es, ep, t, e, c⟩ := x; exact ⟨ob, es, ep, t, k _ _ (.inl rfl) e, c⟩
  | ins C dx fs =>
    obtain ⟨d, z, ne, e, mA, ⟨od, es, ep, e2, c⟩, r⟩ := x
    exact ⟨ho _ d, z, ne, k _ _ (.inl rfl) e, mA, ⟨od, es, ep, k _ _ (.inr d) e2, c⟩, r⟩
  | own y => obtain ⟨ob, e⟩ := x; exact ⟨ob, k _ _ (.inl rfl) e⟩
  | xd fs => obtain ⟨mA, ⟨od, es, ep, e, c⟩, r⟩ := x; exact ⟨mA, ⟨od, es, ep, k _ _ (.inl rfl) e, c⟩, r⟩
  | rng lo hi => obtain ⟨t, u, v, e⟩ := x; exact ⟨t, u, v, k _ _ (.inl rfl) e⟩
  | frz ob u ih => obtain ⟨e, q⟩ := x; exact ⟨k _ _ (.inl rfl) e, ih q⟩
  | tbl ps =>
    have e : h.get? a = some { cls := .none, data := .fields ps } := x
    show h'.get? a = some { cls := .none, data := .fields ps }
    exact k a _ (.inl rfl) e
  | met f y =>
    have e : h.get? a = some (PySem.W.methodObj (.ref f) (.ref y)) := x
    show h'.get? a = some (PySem.W.methodObj (.ref f) (.ref y))
    exact k a _ (.inl rfl) e
  | ext φ => obtain ⟨p, ⟨o, e⟩, st⟩ := x; exact ⟨st _ _ p fun o q => k _ _ (.inl rfl) q, ⟨o, k _ _ (.inl rfl) e⟩, st⟩
theorem HOk.lt (x : HOk P w H h) (e : H a = some o) : a < h.objs.size := (x a o e).lt
theorem HOk.fresh (x : HOk P w H h) (e : h.objs.size ≤ a) : H a = none := by
  cases q : H a with
  | none => rfl
  | some u => exact absurd (Nat.lt_of_lt_of_le (x.lt q) e) (Nat.lt_irrefl _)
/-- every object of the heap is kept -/
theorem HOk.kept (x : HOk P w H h) (k : ∀ b u, h.get? b = some u → h'.get? b = some u) : HOk P w H h' := fun a o e =>
  (x a o e).stay (fun b u _ q => k b u q) (fun _ q => q) fun _ _ q => q
/-- a new object is laid and tracked -/
theorem HOk.laid (x : HOk P w H h) (k : ∀ b u, h.get? b = some u → h'.get? b = some u) (hp : h.objs.size ≤ a) (new : ObjOk P w (upd H a o) h' a o) : HOk P w (upd H a o) h' := fun b u e => by
  have hn := x.fresh hp
  by_cases hb : b = a
  · subst hb; rw [upd_same] at e; cases e; exact new
  · rw [upd_ne hb] at e
    exact (x b u e).stay (fun c v _ q => k c v q) (fun c q => by rw [upd_ne (ne_of_none q hn)]; exact q) fun c xs q => by rw [upd_ne (ne_of_none q hn)]; exact q
end

/-- what may be read as u: it is u, or a known u -/
def Rd (H : Hp) (a : Addr) (u : HO) : Prop := H a = some u ∨ ∃ o, H a = some (.frz o u)
theorem Rd.ok {P : Program} {w : World} {H : Hp} {h : Heap} {a : Addr} {u : HO} (r : Rd H a u) (x : HOk P w H h) : ObjOk P w H h a u := by
  rcases r with r | ⟨o, r⟩
  · exact x a u r
  · obtain ⟨_, q⟩ := x a _ r
    exact q
/-- what may be written -/
def Mut : Option HO → Prop
  | some (.lst _) => True
  | some (.dK _) => True
  | some (.dT _) => True
  | some (.set _ _) => True
  | some (.ins _ _ _) => True
  | some (.ext _) => True
  | _ => False
section
variable {P : Program} {w : World} {H : Hp} {h h' : Heap} {x e : Addr} {o' : HO}
/-- the object at e is changed: x itself, or the dict of the instance x -/
theorem HOk.write (ok : HOk P w H h) (mu : Mut (H x)) (he : e = x ∨ H e = some (.own x)) (k : ∀ b u, b ≠ e → h.get? b = some u → h'.get? b = some u) (heo : ∃ u, h'.get? e = some u)
    (new : ObjOk P w (upd H x o') h' x o') : HOk P w (upd H x o') h' := fun b u q => by
  have nown : ∀ c y, H c = some (.own y) → c ≠ x := fun c y r z => by subst z; rw [r] at mu; exact mu
  have ntup : ∀ c xs, H c = some (.tup xs) → c ≠ x := fun c xs r z => by subst z; rw [r] at mu; exact mu
  by_cases hb : b = x
  · subst hb; rw [upd_same] at q; cases q; exact new
  · rw [upd_ne hb] at q
    by_cases hbe : b = e
    · have q' : H b = some (.own x) := by
        rcases he with z | z
        · exact absurd (hbe.trans z) hb
        · rw [hbe]; exact z
      rw [q] at q'; cases q'
      obtain ⟨v, hv⟩ := heo
      exact ⟨v, by rw [hbe]; exact hv⟩
    · refine (ok b u q).stay (fun c v hc r => k c v ?_ r) (fun c r => by rw [upd_ne (nown c b r)]; exact r) fun c xs r => by rw [upd_ne (ntup c xs r)]; exact r
      rcases hc with rfl | hc
      · exact hbe
      · rintro rfl
        rcases he with z | z
        · exact nown c b hc z
        · rw [hc] at z; cases z; exact hb rfl
end

/-! ### kept unless tracked; of the frames at fs (the callers') the slots may change (an exception that passes writes there); of the records at ex (iterators) nothing is said -/
structure Un (fs ex : List Addr) (H H' : Hp) (h h' : Heap) : Prop where
  keep : ∀ b o, h.get? b = some o → H b = none → b ∉ fs → b ∉ ex → h'.get? b = some o
  slot : ∀ b o, h.get? b = some o → H b = none → b ∈ fs → b ∉ ex → ∃ sl, h'.get? b = some { o with slots := sl }
  free : ∀ b o, h.get? b = some o → H b = none → b ∉ ex → H' b = none
  there : ∀ b o, h.get? b = some o → b ∉ ex → ∃ o', h'.get? b = some o'
  tups : ∀ b xs, H b = some (.tup xs) → H' b = some (.tup xs)
  frzs : ∀ b o u, H b = some (.frz o u) → H' b = some (.frz o u)
  tbls : ∀ b ps, H b = some (.tbl ps) → ∃ more, H' b = some (.tbl (ps ++ more))
section
variable {fs fs' ex ex' : List Addr} {H H1 H2 : Hp} {h h1 h2 h' : Heap} {a x e : Addr} {o : HO}
theorem Un.any (u : Un fs ex H H1 h h1) {b : Addr} {ob : Obj} (q : h.get? b = some ob) (n : H b = none) (hx : b ∉ ex) : ∃ sl, h1.get? b = some { ob with slots := sl } := by
  by_cases hb : b ∈ fs
  · exact u.slot b ob q n hb hx
  · exact ⟨ob.slots, u.keep b ob q n hb hx⟩
theorem Un.kept (k : ∀ b u, h.get? b = some u → h'.get? b = some u) : Un fs ex H H h h' :=
  ⟨fun b ob q _ _ _ => k b ob q, fun b ob q _ _ _ => ⟨ob.slots, k b ob q⟩, fun _ _ _ n _ => n, fun b ob q _ => ⟨ob, k b ob q⟩, fun _ _ q => q, fun _ _ _ q => q, fun _ ps q => ⟨#[], by rw [q]; simp⟩⟩
theorem Un.refl : Un fs ex H H h h := Un.kept fun _ _ q => q
theorem Un.laid (k : ∀ b u, h.get? b = some u → h'.get? b = some u) (hp : h.objs.size ≤ a) (hn : H a = none) : Un fs ex H (upd H a o) h h' where
  keep := fun b u q _ _ _ => k b u q
  slot := fun b u q _ _ _ => ⟨u.slots, k b u q⟩
  free := fun b u q n _ => by rw [upd_ne (Nat.ne_of_lt (Nat.lt_of_lt_of_le (Heap.lt_size q) hp))]; exact n
  there := fun b u q _ => ⟨u, k b u q⟩
  tups := fun b xs q => by rw [upd_ne (ne_of_none q hn)]; exact q
  frzs := fun b u xs q => by rw [upd_ne (ne_of_none q hn)]; exact q
  tbls := fun b ps q => ⟨#[], by rw [upd_ne (ne_of_none q hn), q]; simp⟩
theorem Un.write (mu : Mut (H x)) (he : e = x ∨ H e = some (.own x)) (k : ∀ b u, b ≠ e → h.get? b = some u → h'.get? b = some u) (heo : ∃ u, h'.get? e = some u) : Un fs ex H (upd H x o) h h' := by
  have hx : ∀ b, H b = none → b ≠ x := fun b n z => by subst z; rw [n] at mu; exact mu
  have hb : ∀ b, H b = none → b ≠ e := fun b n z => by
    subst z
    rcases he with r | r
    · exact hx b n r
    · rw [n] at r; cases r
  have hm : ∀ b u, H b = some u → ¬ Mut (some u) → b ≠ x := fun b u q nm z => by subst z; rw [q] at mu; exact nm mu
  refine ⟨fun b u q n _ _ => k b u (hb b n) q, fun b u q n _ _ => ⟨u.slots, k b u (hb b n) q⟩, fun b u q n _ => by rw [upd_ne (hx b n)]; exact n, fun b u q _ => ?_,
    fun b xs q => by rw [upd_ne (hm b _ q fun z => z)]; exact q, fun b u xs q => by rw [upd_ne (hm b _ q fun z => z)]; exact q, fun b ps q => ⟨#[], by rw [upd_ne (hm b _ q fun z => z), q]; simp⟩⟩
  by_cases hbe : b = e
  · subst hbe; exact heo
  · exact ⟨u, k b u hbe q⟩
end

/-! ### the heap without what is tracked -/
def trk (h : Heap) (H : Hp) : List Addr := (List.range h.objs.size).filter fun a => (H a).isSome
def hidT (h : Heap) (H : Hp) : Heap := PySem.W.hideAll h (trk h H)
theorem hidT_size (h : Heap) (H : Hp) : (hidT h H).objs.size = h.objs.size := PySem.W.hideAll_size _ _
theorem hidT_get {h : Heap} {H : Hp} {b : Addr} {o : Obj} (e : h.get? b = some o) (n : H b = none) : (hidT h H).get? b = some o :=
  PySem.W.hideAll_get _ e fun hm => by
    have q : (H b).isSome = true := (List.mem_filter.mp hm).2
    rw [n] at q; simp at q
theorem of_hidT {h : Heap} {H : Hp} {b : Addr} {o : Obj} (e : (hidT h H).get? b = some o) : h.get? b = some o ∧ H b = none := by
  have e' : h.get? b = some o := PySem.W.of_hideAll (trk h H) e
  refine ⟨e', ?_⟩
  cases q : H b with
  | none => rfl
  | some x =>
    have hm : b ∈ trk h H := List.mem_filter.mpr ⟨List.mem_range.mpr (Heap.lt_size e'), by simp [q]⟩
    have z : (hidT h H).get? b = none := PySem.W.hideAll_none (trk h H) hm
    rw [z] at e; cases e

/-! ### OpenK's ledger, filled with every new object but one -/
def allNews (g h : Heap) (L : Addr) : List (Addr × Obj) := (List.range h.objs.size).filterMap fun a => if a = L ∨ (g.get? a).isSome = true then none else (h.get? a).map fun o => (a, o)
def rest (g h : Heap) (L d : Addr) : List (Addr × Obj) := (allNews g h L).filter fun p => decide (p.1 ≠ d)
end L2

namespace L2
open PySem PySem.Spec PyProof.Rows

/-- the module's facts, over the base: the heap at the law's entry without what is tracked there -/
structure Mod (K : PySem.W.Frag) (mg : Str → Option Value) (base : Heap) : Prop where
  kin : K.In base
  glob : base.Ns mainGlobals mg
  blt : ∃ mb, base.Ns builtinsNs mb ∧ ∀ x : Str, x ≠ "__name__" → mb x = bootBuiltins x
  nolimit : base.NoLimit

set_option genInjectivity false in
/-- the context: a def's body (or a comprehension's block) running. base: fixed through the whole law; s₀, H₀: the entry; outer: the frames whose slots others may change (a def's callers); stack: all frames that run;
   ex: iterators that were made ahead of the entry and are walked here (a comprehension's); fn: the names whose cells were made at the entry (a def: all; a comprehension's block: its own); calm: not within an except suite; pn: pins that every state bears; xe: what is wanted of an exception that leaves the code -/
structure Cx where
  prog : Program
  w : World
  K : PySem.W.Frag
  mg : Str → Option Value
  base : Heap
  A : Around
  N : List Str
  s₀ : Shared
  H₀ : Hp
  env : Env
  outer : List Env
  stack : List Env
  ex : List Addr
  fn : Str → Bool
  calm : Bool
  pn : List (Addr × Obj)
  xe : Value → Shared → Prop
/-- the callers' frames -/
def frs (l : List Env) : List Addr := l.filterMap (·.frame)
abbrev Cx.fs (X : Cx) : List Addr := frs X.outer

def Vis (sc : Scope) (x : Str) : Prop := sc.names.lookup x = some .local ∨ sc.names.lookup x = some .cell ∨ sc.names.lookup x = some .free
def Loc (sc : Scope) (x : Str) : Prop := sc.names.lookup x = some .local ∨ sc.names.lookup x = some .cell
def Look (env : Env) (h : Heap) (m : Str → Option Value) (x : Str) (u : Value) : Prop :=
  (env.kindOf x = some .local ∧ m x = some u) ∨ ((env.kindOf x = some .cell ∨ env.kindOf x = some .free) ∧ ∃ c, env.cells.lookup x = some c ∧ h.IsCell c (some u))

structure Cx.Ok (X : Cx) : Prop where
  mod : Mod X.K X.mg X.base
  kind : X.env.scope.kind = .function
  glob : X.env.globals = mainGlobals
  blt : X.env.builtins = builtinsNs
  above : X.s₀.heap.objs.size ≤ X.env.locals
  inj : ∀ x y c, X.env.cells.lookup x = some c → X.env.cells.lookup y = some c → x = y
  has : ∀ x, (X.env.kindOf x = some .cell ∨ X.env.kindOf x = some .free) → ∃ c, X.env.cells.lookup x = some c
  cab : ∀ x c, X.fn x = true → X.env.cells.lookup x = some c → X.s₀.heap.objs.size ≤ c
  hd : X.calm = true → X.A.handled = none
  frames : X.A.frames = some X.stack
  stk : X.stack = X.outer ∨ (X.stack = X.env :: X.outer ∧ X.env.frame = some X.env.locals)
  exf : ∀ b ∈ X.ex, b ≠ X.env.locals ∧ ∀ x c, X.env.cells.lookup x = some c → c ≠ b
  bs : ∀ b o, X.base.get? b = some o → X.s₀.heap.get? b = some o ∧ X.H₀ b = none
  bsz : X.base.objs.size ≤ X.s₀.heap.objs.size
  noex : ∀ b o, X.base.get? b = some o → b ∉ X.ex
  exfs : ∀ b ∈ X.ex, b ∉ X.fs
  funs : X.s₀.heap.FunFrames X.base X.outer
  frf : ∀ b ∈ X.fs, X.H₀ b = none

structure Inv (X : Cx) (pins : List (Addr × Obj)) (σ : List (Option V)) (H : Hp) (s : Shared) : Prop where
  ok : X.Ok
  os : s.os = X.s₀.os
  bare : AllBare s.gens
  base : Un X.fs X.ex X.H₀ H X.s₀.heap s.heap
  loc : ∃ m, s.heap.Ns X.env.locals m ∧ ∀ (i : Nat) (x : Str) (v : V), X.N[i]? = some x → σ[i]? = some (some v) → Vis X.env.scope x → ∃ u, RelV v u ∧ Look X.env s.heap m x u
  cell : ∀ x c, X.env.cells.lookup x = some c → ∃ v, s.heap.IsCell c v
  free : H X.env.locals = none
  freeC : ∀ x c, X.env.cells.lookup x = some c → H c = none
  pin : ∀ p ∈ X.pn ++ pins, s.heap.get? p.1 = some p.2 ∧ H p.1 = none ∧ p.1 ≠ X.env.locals ∧ p.1 ∉ X.fs ∧ ∀ v, p.2.data ≠ .cell v
  hok : HOk X.prog X.w H s.heap
  len : σ.length = X.N.length

section
variable {X : Cx} {pins : List (Addr × Obj)} {σ : List (Option V)} {H H' : Hp} {s : Shared} {h' : Heap}

theorem Cx.Ok.nofr (ok : X.Ok) {b : Addr} {o : Obj} (e : X.base.get? b = some o) : b ∉ X.fs := fun hb => by
  have := (ok.funs.mem hb).1
  rw [e] at this; cases this
theorem Inv.bs (I : Inv X pins σ H s) : ∀ b o, X.base.get? b = some o → s.heap.get? b = some o ∧ H b = none := fun b o e =>
  ⟨I.base.keep b o (I.ok.bs b o e).1 (I.ok.bs b o e).2 (I.ok.nofr e) (I.ok.noex b o e), I.base.free b o (I.ok.bs b o e).1 (I.ok.bs b o e).2 (I.ok.noex b o e)⟩
theorem Inv.bk (I : Inv X pins σ H s) : ∀ b o, X.base.get? b = some o → s.heap.get? b = some o := fun b o e => (I.bs b o e).1
theorem Inv.mod (I : Inv X pins σ H s) : Mod X.K X.mg X.base := I.ok.mod
theorem Inv.kIn (I : Inv X pins σ H s) : X.K.In s.heap := I.ok.mod.kin.keeps I.bk
theorem Inv.lt (I : Inv X pins σ H s) : X.env.locals < s.heap.objs.size := let ⟨_, hn, _⟩ := I.loc; hn.lt
theorem Inv.sz (I : Inv X pins σ H s) : X.s₀.heap.objs.size ≤ s.heap.objs.size := Nat.le_trans I.ok.above (Nat.le_of_lt I.lt)
theorem Inv.nofs (I : Inv X pins σ H s) {a : Addr} (h : s.heap.objs.size ≤ a) : a ∉ X.fs := fun hb => by
  obtain ⟨_, o, ho, _⟩ := I.ok.funs.mem hb
  exact absurd (Nat.lt_of_lt_of_le (Heap.lt_size ho) (Nat.le_trans I.sz h)) (Nat.lt_irrefl _)
theorem Inv.cne (I : Inv X pins σ H s) : ∀ x c, X.env.cells.lookup x = some c → c ≠ X.env.locals := fun x c e z => by
  obtain ⟨v, o, ho, hd⟩ := I.cell x c e
  obtain ⟨m, ⟨o', es, ep, ho', hd', _⟩, _⟩ := I.loc
  rw [z, ho'] at ho; cases ho; rw [hd'] at hd; cases hd
theorem Inv.funs (I : Inv X pins σ H s) : s.heap.FunFrames X.base X.outer := by
  have all : ∀ (l : List Env), (∀ b ∈ frs l, b ∈ X.fs) → X.s₀.heap.FunFrames X.base l → s.heap.FunFrames X.base l := by
    intro l
    induction l with
    | nil => intro _ _; trivial
    | cons env r ih =>
      intro hs hl
      obtain ⟨hk, ⟨L, o, hf, hn, ho, hd⟩, hr⟩ := hl
      have hL : L ∈ X.fs := hs L (by unfold frs; rw [List.filterMap_cons, hf]; exact List.mem_cons_self)
      obtain ⟨sl, e⟩ := I.base.slot L o ho (I.ok.frf L hL) hL fun z => I.ok.exfs L z hL
      exact ⟨hk, ⟨L, _, hf, hn, e, hd⟩, ih (fun b hb => hs b (by unfold frs; rw [List.filterMap_cons, hf]; exact List.mem_cons_of_mem _ hb)) hr⟩
  exact all X.outer (fun _ hb => hb) I.ok.funs

/-- the frames that run, for a call -/
theorem Inv.stack (I : Inv X pins σ H s) : s.heap.FunFrames X.base X.stack := by
  rcases I.ok.stk with e | ⟨e, hf⟩
  · rw [e]; exact I.funs
  · rw [e]
    obtain ⟨m, hn, _⟩ := I.loc
    refine .cons (by rw [I.ok.kind]; decide) hf hn ?_ I.funs
    exact Heap.get?_none_of_le (Nat.le_trans I.ok.bsz I.ok.above)
theorem Inv.stkSub (I : Inv X pins σ H s) : ∀ b ∈ frs X.stack, b ∈ X.env.locals :: X.fs := fun b hb => by
  rcases I.ok.stk with e | ⟨e, hf⟩
  · rw [e] at hb; exact List.mem_cons_of_mem _ hb
  · rw [e] at hb
    unfold frs at hb
    rw [List.filterMap_cons, hf] at hb
    exact hb
theorem Inv.stkFree (I : Inv X pins σ H s) : ∀ b ∈ frs X.stack, H b = none := fun b hb => by
  rcases List.mem_cons.mp (I.stkSub b hb) with e | hb
  · rw [e]; exact I.free
  · obtain ⟨_, o, ho, _⟩ := I.ok.funs.mem hb
    exact I.base.free b o ho (I.ok.frf b hb) fun z => I.ok.exfs b z hb

/-- THE STEP: the untracked objects but the frame and the records at ch are kept (the callers' frames up to slots), the frame's map is kept, the new abstract heap is held -/
theorem Inv.step {g' : Array GenState} {t' : Nat} {d' : Drawn} {ch : List Addr} (I : Inv X pins σ H s)
    (hch : ∀ b ∈ ch, (b ∈ X.ex ∨ X.s₀.heap.objs.size ≤ b) ∧ b ≠ X.env.locals ∧ (∀ x c, X.env.cells.lookup x = some c → c ≠ b) ∧ ∀ p ∈ X.pn ++ pins, p.1 ≠ b)
    (keep : ∀ b o, b ≠ X.env.locals → b ∉ X.fs → b ∉ ch → s.heap.get? b = some o → H b = none → h'.get? b = some o)
    (slot : ∀ b o, b ≠ X.env.locals → b ∈ X.fs → b ∉ ch → s.heap.get? b = some o → H b = none → ∃ sl, h'.get? b = some { o with slots := sl }) (free : ∀ b o, b ∉ ch → s.heap.get? b = some o → H b = none → H' b = none)
    (there : ∀ b o, b ∉ ch → s.heap.get? b = some o → ∃ o', h'.get? b = some o')
    (tups : ∀ b xs, H b = some (.tup xs) → H' b = some (.tup xs)) (frzs : ∀ b o u, H b = some (.frz o u) → H' b = some (.frz o u)) (tbls : ∀ b ps, H b = some (.tbl ps) → ∃ more, H' b = some (.tbl (ps ++ more)))
    (ns : ∀ m, s.heap.Ns X.env.locals m → h'.Ns X.env.locals m) (hok : HOk X.prog X.w H' h') (hg : AllBare g') :
    Inv X pins σ H' { s with heap := h', gens := g', drawn := d', toks := t' } := by
  have neL : ∀ b o, X.s₀.heap.get? b = some o → b ≠ X.env.locals := fun b o e => Nat.ne_of_lt (Nat.lt_of_lt_of_le (Heap.lt_size e) I.ok.above)
  have neC : ∀ b o, X.s₀.heap.get? b = some o → b ∉ X.ex → b ∉ ch := fun b o e hx hb => by
    rcases (hch b hb).1 with z | z
    · exact hx z
    · exact absurd (Nat.lt_of_lt_of_le (Heap.lt_size e) z) (Nat.lt_irrefl _)
  have cellK : ∀ x c, X.env.cells.lookup x = some c → ∀ v, s.heap.IsCell c v → h'.IsCell c v := fun x c e v ⟨o, ho, hd⟩ => by
    have nch : c ∉ ch := fun z => (hch c z).2.2.1 x c e rfl
    by_cases hc : c ∈ X.fs
    · obtain ⟨sl, q⟩ := slot c o (I.cne x c e) hc nch ho (I.freeC x c e)
      exact ⟨_, q, hd⟩
    · exact ⟨o, keep c o (I.cne x c e) hc nch ho (I.freeC x c e), hd⟩
  refine ⟨I.ok, I.os, hg, ⟨fun b o e n hb hx => ?_, fun b o e n hb hx => ?_, fun b o e n hx => ?_, fun b o e hx => ?_, fun b xs e => tups b xs (I.base.tups b xs e), fun b o xs e => frzs b o xs (I.base.frzs b o xs e), fun b ps e => ?_⟩, ?_, fun x c e => ?_, ?_, fun x c e => ?_, fun p hp => ?_, hok, I.len⟩
  · exact keep b o (neL b o e) hb (neC b o e hx) (I.base.keep b o e n hb hx) (I.base.free b o e n hx)
  · obtain ⟨sl, e1⟩ := I.base.slot b o e n hb hx
    obtain ⟨sl', e2⟩ := slot b _ (neL b o e) hb (neC b o e hx) e1 (I.base.free b o e n hx)
    exact ⟨sl', e2⟩
  · obtain ⟨o', e1⟩ := I.base.there b o e hx
    exact free b o' (neC b o e hx) e1 (I.base.free b o e n hx)
  · obtain ⟨o', e1⟩ := I.base.there b o e hx
    exact there b o' (neC b o e hx) e1
  · obtain ⟨m1, e1⟩ := I.base.tbls b ps e
    obtain ⟨m2, e2⟩ := tbls b _ e1
    exact ⟨m1 ++ m2, by rw [e2, Array.append_assoc]⟩
  · obtain ⟨m, hn, hl⟩ := I.loc
    refine ⟨m, ns m hn, fun i x v e1 e2 e3 => ?_⟩
    obtain ⟨u, r, l⟩ := hl i x v e1 e2 e3
    refine ⟨u, r, ?_⟩
    rcases l with l | ⟨k, c, e, z⟩
    · exact .inl l
    · exact .inr ⟨k, c, e, cellK x c e _ z⟩
  · obtain ⟨v, z⟩ := I.cell x c e
    exact ⟨v, cellK x c e v z⟩
  · obtain ⟨m, ⟨o, _, _, ho, _⟩, _⟩ := I.loc
    exact free _ o (fun z => (hch _ z).2.1 rfl) ho I.free
  · obtain ⟨v, o, ho, hd⟩ := I.cell x c e
    exact free c o (fun z => (hch c z).2.2.1 x c e rfl) ho (I.freeC x c e)
  · obtain ⟨e, n, ne, nf, d⟩ := I.pin p hp
    have nch : p.1 ∉ ch := fun z => (hch p.1 z).2.2.2 p hp rfl
    exact ⟨keep p.1 p.2 ne nf nch e n, free p.1 p.2 nch e n, ne, nf, d⟩
/-- .. where the frame's own object is kept too -/
theorem Inv.un {t' : Nat} (I : Inv X pins σ H s) (u : Un X.fs [] H H' s.heap h') (hok : HOk X.prog X.w H' h') : Inv X pins σ H' { s with heap := h', toks := t' } := by
  obtain ⟨m, ⟨o, es, ep, ho, r⟩, _⟩ := id I.loc
  obtain ⟨sl, hL⟩ := u.any ho I.free (by simp)
  exact I.step (g' := s.gens) (d' := s.drawn) (ch := []) (fun _ z => nomatch z) (fun b o _ hb _ e n => u.keep b o e n hb (by simp)) (fun b o _ hb _ e n => u.slot b o e n hb (by simp)) (fun b o _ e n => u.free b o e n (by simp)) (fun b o _ e => u.there b o e (by simp)) u.tups u.frzs u.tbls (fun m' hm => by
    obtain ⟨o', es', ep', ho', r'⟩ := hm
    rw [ho] at ho'; cases ho'
    exact ⟨_, es', ep', hL, r'⟩) hok I.bare
/-- behind a call (or a comprehension's block): the slots of this frame may have changed too, the records at ch may have turned -/
theorem Inv.call {g' : Array GenState} {t' : Nat} {d' : Drawn} {ch : List Addr} (I : Inv X pins σ H s) (u : Un (frs X.stack) ch H H' s.heap h') (hok : HOk X.prog X.w H' h') (hg : AllBare g')
    (hch : ∀ b ∈ ch, (b ∈ X.ex ∨ X.s₀.heap.objs.size ≤ b) ∧ b ≠ X.env.locals ∧ (∀ x c, X.env.cells.lookup x = some c → c ≠ b) ∧ ∀ p ∈ X.pn ++ pins, p.1 ≠ b) :
    Inv X pins σ H' { s with heap := h', gens := g', drawn := d', toks := t' } := by
  obtain ⟨m, ⟨o, es, ep, ho, r⟩, _⟩ := id I.loc
  obtain ⟨sl, hL⟩ := u.any ho I.free fun z => (hch _ z).2.1 rfl
  exact I.step (ch := ch) hch (fun b o hL hb hc e n => u.keep b o e n (fun z => (List.mem_cons.mp (I.stkSub b z)).elim hL hb) hc) (fun b o _ _ hc e n => u.any e n hc) (fun b o hc e n => u.free b o e n hc) (fun b o hc e => u.there b o e hc) u.tups u.frzs u.tbls (fun m' hm => by
    obtain ⟨o', es', ep', ho', r'⟩ := hm
    rw [ho] at ho'; cases ho'
    exact ⟨_, es', ep', hL, r'⟩) hok hg
/-- an untracked record of ours (an iterator) has turned -/
theorem Inv.turned {t' : Nat} {it : Addr} (I : Inv X pins σ H s) (k : ∀ b o, b ≠ it → s.heap.get? b = some o → h'.get? b = some o) (hn : H it = none) (hL : it ≠ X.env.locals)
    (h1 : it ∈ X.ex ∨ X.s₀.heap.objs.size ≤ it) (h2 : ∀ x c, X.env.cells.lookup x = some c → c ≠ it) (h3 : ∀ p ∈ X.pn ++ pins, p.1 ≠ it) : Inv X pins σ H { s with heap := h', toks := t' } := by
  have nit : ∀ b u, H b = some u → b ≠ it := fun b u e z => by rw [z, hn] at e; cases e
  refine I.step (g' := s.gens) (d' := s.drawn) (ch := [it]) (fun b hb => ?_) (fun b o _ _ hc e _ => k b o (fun z => hc (by simp [z])) e) (fun b o _ _ hc e _ => ⟨o.slots, k b o (fun z => hc (by simp [z])) e⟩) (fun _ _ _ _ n => n)
    (fun b o hc e => ⟨o, k b o (fun z => hc (by simp [z])) e⟩) (fun _ _ e => e) (fun _ _ _ e => e) (fun b ps e => ⟨#[], by rw [e]; simp⟩) (fun m hm => ?_) (fun b u e => ?_) I.bare
  · have e : b = it := by simpa using hb
    subst e
    exact ⟨h1, hL, h2, h3⟩
  · obtain ⟨o, es, ep, ho, r⟩ := hm
    exact ⟨o, es, ep, k _ o (Ne.symm hL) ho, r⟩
  · refine (I.hok b u e).stay (fun c v hc q => k c v ?_ q) (fun _ q => q) fun _ _ q => q
    rcases hc with z | z
    · rw [z]; exact nit b u e
    · exact nit c _ z
theorem Inv.tok (I : Inv X pins σ H s) (t : Nat) : Inv X pins σ H { s with toks := t } := I.un (h' := s.heap) (t' := t) Un.refl I.hok
/-- all objects kept -/
theorem Inv.kept {t' : Nat} (I : Inv X pins σ H s) (k : ∀ b u, s.heap.get? b = some u → h'.get? b = some u) : Inv X pins σ H { s with heap := h', toks := t' } := I.un (Un.kept k) (I.hok.kept k)
/-- a new object laid and tracked -/
theorem Inv.laid {a : Addr} {o : HO} {t' : Nat} (I : Inv X pins σ H s) (k : ∀ b u, s.heap.get? b = some u → h'.get? b = some u) (hp : s.heap.objs.size ≤ a) (new : ObjOk X.prog X.w (upd H a o) h' a o) :
    Inv X pins σ (upd H a o) { s with heap := h', toks := t' } := I.un (Un.laid k hp (I.hok.fresh hp)) (I.hok.laid k hp new)
/-- an object written -/
theorem Inv.write {x e : Addr} {o : HO} {t' : Nat} (I : Inv X pins σ H s) (mu : Mut (H x)) (he : e = x ∨ H e = some (.own x)) (k : ∀ b u, b ≠ e → s.heap.get? b = some u → h'.get? b = some u) (heo : ∃ u, h'.get? e = some u)
    (new : ObjOk X.prog X.w (upd H x o) h' x o) : Inv X pins σ (upd H x o) { s with heap := h', toks := t' } := I.un (Un.write mu he k heo) (I.hok.write mu he k heo new)
theorem Inv.pins_of {pins' : List (Addr × Obj)} (I : Inv X pins σ H s) (h : ∀ p ∈ pins', s.heap.get? p.1 = some p.2 ∧ H p.1 = none ∧ p.1 ≠ X.env.locals ∧ p.1 ∉ X.fs ∧ ∀ v, p.2.data ≠ .cell v) : Inv X pins' σ H s :=
  ⟨I.ok, I.os, I.bare, I.base, I.loc, I.cell, I.free, I.freeC, fun p hp => (List.mem_append.mp hp).elim (fun z => I.pin p (List.mem_append_left _ z)) (h p), I.hok, I.len⟩

theorem nodup_ix {N : List Str} (hN : N.Nodup) {i j : Nat} {x : Str} (a : N[i]? = some x) (b : N[j]? = some x) : i = j := by
  obtain ⟨h1, e1⟩ := List.getElem?_eq_some_iff.mp a
  obtain ⟨h2, e2⟩ := List.getElem?_eq_some_iff.mp b
  exact (List.getElem_inj hN).mp (e1.trans e2.symm)

/-- a name is stored; what changed -/
theorem store_ok2 {M : Model} {A : Around} {E : Value → Shared → Prop} {i : Nat} {x : Str} {v : V} {u : Value} {Q : Unit → Shared → Prop} (I : Inv X pins σ H s) (hN : X.N.Nodup) (hi : X.N[i]? = some x) (hx : Loc X.env.scope x) (r : RelV v u)
    (h : ∀ s', Inv X pins (σ.set i (some v)) H s' → (∃ a, Heap.SameBut a s.heap s'.heap ∧ (a = X.env.locals ∨ X.env.cells.lookup x = some a)) → Q () s') (hf : X.fn x = true ∨ X.env.scope.names.lookup x = some .local := by first | exact .inl rfl | exact .inr rfl | assumption) : wpAny M A (storeName X.env x u) Q E s := by
  obtain ⟨m, hn, hl⟩ := id I.loc
  have hcls : (X.env.scope.kind == .class || (X.env.scope.kind == .module && X.env.locals != X.env.globals)) = false := by rw [I.ok.kind]; rfl
  have hiσ : i < σ.length := by rw [I.len]; exact (List.getElem?_eq_some_iff.mp hi).1
  have cne := I.cne
  have tracked : ∀ {a : Addr} {h' : Heap}, (∃ o, s.heap.get? a = some o ∧ H a = none) → Heap.SameBut a s.heap h' → HOk X.prog X.w H h' := fun {a h'} ha hs b ob e => by
    obtain ⟨_, _, hfree⟩ := ha
    refine (I.hok b ob e).stay (fun c w' hc q => (hs.2 c ?_).trans q) (fun _ q => q) fun _ _ q => q
    rintro rfl
    rcases hc with rfl | hc
    · rw [hfree] at e; cases e
    · rw [hfree] at hc; cases hc
  rcases hx with hk | hk
  · refine wpAny_storeName_local hk hn (fun h' hn' hs => ?_) hcls
    obtain ⟨oL, _, _, hoL, _⟩ := id hn
    refine h _ ⟨I.ok, I.os, I.bare, ⟨fun b o e n hb hx => ?_, fun b o e n hb hx => ?_, I.base.free, fun b o e hx => ?_, I.base.tups, I.base.frzs, I.base.tbls⟩, ⟨_, hn', fun j y v' e1 e2 e3 => ?_⟩, fun y c e => ?_, I.free, I.freeC, fun p hp => ?_, tracked ⟨oL, hoL, I.free⟩ hs, by simpa using I.len⟩ ⟨_, hs, .inl rfl⟩
    · exact (hs.2 b (Nat.ne_of_lt (Nat.lt_of_lt_of_le (Heap.lt_size e) I.ok.above))).trans (I.base.keep b o e n hb hx)
    · obtain ⟨sl, e1⟩ := I.base.slot b o e n hb hx
      exact ⟨sl, (hs.2 b (Nat.ne_of_lt (Nat.lt_of_lt_of_le (Heap.lt_size e) I.ok.above))).trans e1⟩
    · obtain ⟨o', e1⟩ := I.base.there b o e hx
      exact ⟨o', (hs.2 b (Nat.ne_of_lt (Nat.lt_of_lt_of_le (Heap.lt_size e) I.ok.above))).trans e1⟩
    · by_cases hj : j = i
      · subst hj
        rw [hi] at e1; cases e1
        rw [List.getElem?_set_self hiσ] at e2
        cases e2
        exact ⟨u, r, .inl ⟨hk, by simp⟩⟩
      · rw [List.getElem?_set_ne (Ne.symm hj)] at e2
        obtain ⟨u', r', q⟩ := hl j y v' e1 e2 e3
        refine ⟨u', r', ?_⟩
        rcases q with ⟨k, e⟩ | ⟨k, c, e, z⟩
        · refine .inl ⟨k, ?_⟩
          have : y ≠ x := fun e => hj (nodup_ix hN e1 (e ▸ hi))
          simp [this, e]
        · exact .inr ⟨k, c, e, z.sameBut hs (cne y c e)⟩
    · obtain ⟨w', z⟩ := I.cell y c e
      exact ⟨w', z.sameBut hs (cne y c e)⟩
    · obtain ⟨e, n, ne, nf, d⟩ := I.pin p hp
      exact ⟨(hs.2 p.1 ne).trans e, n, ne, nf, d⟩
  · have hfn : X.fn x = true := by
      rcases hf with z | z
      · exact z
      · rw [z] at hk; cases hk
    obtain ⟨c, hc⟩ := I.ok.has x (.inl hk)
    obtain ⟨w', z⟩ := I.cell x c hc
    refine wpAny_storeName_cell I.ok.kind hk hc z (fun h' hc' hs => ?_)
    obtain ⟨oc, hoc, hocd⟩ := id z
    refine h { s with heap := h' } ⟨I.ok, I.os, I.bare, ⟨fun b o e n hb hx => ?_, fun b o e n hb hx => ?_, I.base.free, fun b o e hx => ?_, I.base.tups, I.base.frzs, I.base.tbls⟩, ⟨m, hn.sameBut hs (Ne.symm (cne x c hc)), fun j y v' e1 e2 e3 => ?_⟩, fun y c' e => ?_, I.free, I.freeC, fun p hp => ?_, tracked ⟨oc, hoc, I.freeC x c hc⟩ hs, by simpa using I.len⟩ ⟨c, hs, .inr hc⟩
    · exact (hs.2 b (Nat.ne_of_lt (Nat.lt_of_lt_of_le (Heap.lt_size e) (I.ok.cab x c hfn hc)))).trans (I.base.keep b o e n hb hx)
    · obtain ⟨sl, e1⟩ := I.base.slot b o e n hb hx
      exact ⟨sl, (hs.2 b (Nat.ne_of_lt (Nat.lt_of_lt_of_le (Heap.lt_size e) (I.ok.cab x c hfn hc)))).trans e1⟩
    · obtain ⟨o', e1⟩ := I.base.there b o e hx
      exact ⟨o', (hs.2 b (Nat.ne_of_lt (Nat.lt_of_lt_of_le (Heap.lt_size e) (I.ok.cab x c hfn hc)))).trans e1⟩
    · by_cases hj : j = i
      · subst hj
        rw [hi] at e1; cases e1
        rw [List.getElem?_set_self hiσ] at e2
        cases e2
        exact ⟨u, r, .inr ⟨.inl hk, c, hc, hc'⟩⟩
      · rw [List.getElem?_set_ne (Ne.symm hj)] at e2
        obtain ⟨u', r', q⟩ := hl j y v' e1 e2 e3
        refine ⟨u', r', ?_⟩
        rcases q with q | ⟨k, c', e, z'⟩
        · exact .inl q
        · refine .inr ⟨k, c', e, z'.sameBut hs ?_⟩
          rintro rfl
          exact hj (nodup_ix hN e1 (I.ok.inj _ _ _ e hc ▸ hi))
    · by_cases hcc : c' = c
      · subst hcc; exact ⟨_, hc'⟩
      · obtain ⟨w2, z2⟩ := I.cell y c' e
        exact ⟨w2, z2.sameBut hs hcc⟩
    · obtain ⟨e, n, ne, nf, d⟩ := I.pin p hp
      refine ⟨(hs.2 p.1 ?_).trans e, n, ne, nf, d⟩
      intro q
      rw [q, hoc] at e
      have q' : oc = p.2 := Option.some.inj e
      exact d w' (by rw [← q']; exact hocd)
theorem store_ok {M : Model} {A : Around} {E : Value → Shared → Prop} {i : Nat} {x : Str} {v : V} {u : Value} {Q : Unit → Shared → Prop} (I : Inv X pins σ H s) (hN : X.N.Nodup) (hi : X.N[i]? = some x) (hx : Loc X.env.scope x) (r : RelV v u)
    (h : ∀ s', Inv X pins (σ.set i (some v)) H s' → Q () s') (hf : X.fn x = true ∨ X.env.scope.names.lookup x = some .local := by first | exact .inl rfl | exact .inr rfl | assumption) : wpAny M A (storeName X.env x u) Q E s :=
  store_ok2 I hN hi hx r (fun s' I' _ => h s' I') hf
/-- behind a call or a block, the state as it is -/
theorem Inv.call' {s' : Shared} {ch : List Addr} (I : Inv X pins σ H s) (ho : s'.os = s.os) (u : Un (frs X.stack) ch H H' s.heap s'.heap) (hok : HOk X.prog X.w H' s'.heap) (hg : AllBare s'.gens)
    (hch : ∀ b ∈ ch, (b ∈ X.ex ∨ X.s₀.heap.objs.size ≤ b) ∧ b ≠ X.env.locals ∧ (∀ x c, X.env.cells.lookup x = some c → c ≠ b) ∧ ∀ p ∈ X.pn ++ pins, p.1 ≠ b) : Inv X pins σ H' s' := by
  obtain ⟨h', g', d', t', o'⟩ := s'
  have e : o' = s.os := ho
  subst e
  exact I.call (g' := g') (t' := t') (d' := d') u hok hg hch
end

/-! ### the judgements -/
/-- an exception: its class, its own dict's address (where it has one), the abstract heap behind it -/
abbrev XK := Value → Option Addr → Hp → Prop
abbrev St := List (Option V)
abbrev VK := V → Hp → Prop
/-- an expression's reading; a test's; an argument list's -/
abbrev TE := St → Hp → VK → Prop
abbrev TT := St → Hp → (Bool → Hp → Prop) → Prop
abbrev TA := St → Hp → (List V → Hp → Prop) → Prop
/-- what is wanted behind a statement -/
structure Ends where
  nx : St → Hp → Prop
  rt : VK
  bk : St → Hp → Prop := fun _ _ => False
  ct : St → Hp → Prop := fun _ _ => False
abbrev TS := Ends → St → Hp → Prop

def EP (X : Cx) (pins : List (Addr × Obj)) (σ : St) (Q : VK) (u : Value) (s' : Shared) : Prop := ∃ v H', Inv X pins σ H' s' ∧ RelV v u ∧ Q v H'
def TP (X : Cx) (pins : List (Addr × Obj)) (σ : St) (Q : Bool → Hp → Prop) (b : Bool) (s' : Shared) : Prop := ∃ H', Inv X pins σ H' s' ∧ Q b H'
def AP (X : Cx) (pins : List (Addr × Obj)) (σ : St) (Q : List V → Hp → Prop) (us : List Value) (s' : Shared) : Prop := ∃ vs H', Inv X pins σ H' s' ∧ Vals vs us ∧ Q vs H'
def SP (X : Cx) (pins : List (Addr × Obj)) (D : Ends) (f : Flow) (s' : Shared) : Prop :=
  match f with
  | .next => ∃ σ' H', Inv X pins σ' H' s' ∧ D.nx σ' H'
  | .brk => ∃ σ' H', Inv X pins σ' H' s' ∧ D.bk σ' H'
  | .cont => ∃ σ' H', Inv X pins σ' H' s' ∧ D.ct σ' H'
  | .ret u => ∃ v σ' H', Inv X pins σ' H' s' ∧ RelV v u ∧ D.rt v H'

def PE (X : Cx) (e : Expr) (t : TE) : Prop :=
  ∀ (pins : List (Addr × Obj)) (s : Shared) (σ : St) (H : Hp) (Q : VK), Inv X pins σ H s → t σ H Q → wpAny (model X.prog X.w) X.A (eval e X.env) (EP X pins σ Q) X.xe s
def PT (X : Cx) (e : Expr) (t : TT) : Prop :=
  ∀ (pins : List (Addr × Obj)) (s : Shared) (σ : St) (H : Hp) (Q : Bool → Hp → Prop), Inv X pins σ H s → t σ H Q → wpAny (model X.prog X.w) X.A (isTrue e X.env (eval e X.env)) (TP X pins σ Q) X.xe s
/-- a test whatever its 'whole' is (and, or) -/
def PW (X : Cx) (e : Expr) (t : TT) : Prop :=
  ∀ (whole : Sem Value) (pins : List (Addr × Obj)) (s : Shared) (σ : St) (H : Hp) (Q : Bool → Hp → Prop), Inv X pins σ H s → t σ H Q → wpAny (model X.prog X.w) X.A (isTrue e X.env whole) (TP X pins σ Q) X.xe s
theorem PW.pt {X : Cx} {e : Expr} {t : TT} (h : PW X e t) : PT X e t := h _
/-- an argument list (no star), from the left -/
def PA (X : Cx) (es : List Expr) (t : TA) : Prop :=
  ∀ (pos : Pos) (pins : List (Addr × Obj)) (s : Shared) (σ : St) (H : Hp) (Q : List V → Hp → Prop), Inv X pins σ H s → t σ H Q → wpAny (model X.prog X.w) X.A (spliced (backTo pos (starEach es X.env))) (AP X pins σ Q) X.xe s
def PS (X : Cx) (st : Stmt) (t : TS) : Prop :=
  ∀ (pins : List (Addr × Obj)) (s : Shared) (σ : St) (H : Hp) (D : Ends), Inv X pins σ H s → t D σ H → wpAny (model X.prog X.w) X.A (exec st X.env) (SP X pins D) X.xe s
def PSs (X : Cx) (st : List Stmt) (t : TS) : Prop :=
  ∀ (pins : List (Addr × Obj)) (s : Shared) (σ : St) (H : Hp) (D : Ends), Inv X pins σ H s → t D σ H → wpAny (model X.prog X.w) X.A (execs st X.env) (SP X pins D) X.xe s
/-- weaken the end -/
theorem thn {α : Type} {t : Sem α} {Q Q' : α → Shared → Prop} {M : Model} {A : Around} {E : Value → Shared → Prop} {s : Shared} (h : wpAny M A t Q E s) (hQ : ∀ a s, Q a s → Q' a s) : wpAny M A t Q' E s := wpAny_mono h hQ fun _ _ x => x
end L2

namespace L2
open PySem PySem.Spec PyProof.Rows
section
variable {X : Cx}

/-! ### names and constants -/
def tVar (i : Nat) : TE := fun σ H Q => ∃ v, σ[i]? = some (some v) ∧ Q v H
def tC (v : V) : TE := fun _ H Q => Q v H
theorem pe_var {i : Nat} {x : Str} {pos : Pos} (hN : X.N[i]? = some x) (hv : Vis X.env.scope x) (hd : (x == ("__debug__" : Str)) = false := by decide) (hcd : (x == ("__classdict__" : Str)) = false := by decide) : PE X (.Name x pos) (tVar i) := by
  intro pins s σ H Q I h
  obtain ⟨v, e, h⟩ := h
  obtain ⟨m, hn, hl⟩ := I.loc
  obtain ⟨u, r, l⟩ := hl i x v hN e hv
  have fin : EP X pins σ Q u s := ⟨v, H, I, r, h⟩
  rcases l with ⟨hk, hm⟩ | ⟨hk, c, hc, hcell⟩
  · exact wpAny_Name (wpAny_loadName_local I.ok.kind hk hn hm fin) hd
  · rcases hk with hk | hk
    · exact wpAny_Name (wpAny_loadName_cell I.ok.kind hk hc hcell fin) hd
    · exact wpAny_Name (wpAny_loadName_free I.ok.kind hk hc hcell fin hcd) hd
theorem pe_int {i j pos} : PE X (.Constant (.int i) j pos) (tC (.int i)) := fun _ _ _ H _ I h => wpAny_Constant_int ⟨.int i, H, I.tok _, ⟨_, rfl⟩, h⟩
theorem pe_bl {b j pos} : PE X (.Constant (.bool b) j pos) (tC (.bl b)) := fun _ _ _ H _ I h => Constant_bool ⟨.bl b, H, I, rfl, h⟩
theorem pe_str {x j pos} : PE X (.Constant (.str x) j pos) (tC (.str x)) := fun _ _ _ H _ I h => Calls.Constant_str ⟨.str x, H, I.tok _, ⟨_, rfl⟩, h⟩

/-- a global name of the def -/
def Gl (X : Cx) (x : Str) : Prop := X.env.kindOf x = some .globalImplicit
theorem ld_glob {E : Value → Shared → Prop} {pins : List (Addr × Obj)} {s : Shared} {σ : St} {H : Hp} {x : Str} {u : Value} {pos : Pos} {Q : Value → Shared → Prop} (I : Inv X pins σ H s) (hg : Gl X x) (hm : X.mg x = some u) (h : Q u s)
    (hd : (x == ("__debug__" : Str)) = false := by decide) : wpAny (model X.prog X.w) X.A (eval (.Name x pos) X.env) Q E s :=
  Calls.Name_function_global I.ok.kind hg (Calls.loadGlobal_global (by rw [I.ok.glob]; exact I.mod.glob.keeps I.bk) hm h) hd
theorem ld_blt {E : Value → Shared → Prop} {pins : List (Addr × Obj)} {s : Shared} {σ : St} {H : Hp} {x : Str} {u : Value} {pos : Pos} {Q : Value → Shared → Prop} (I : Inv X pins σ H s) (hg : Gl X x) (hm : X.mg x = none) (hv : bootBuiltins x = some u) (h : Q u s)
    (hn : x ≠ "__name__" := by decide) (hd : (x == ("__debug__" : Str)) = false := by decide) : wpAny (model X.prog X.w) X.A (eval (.Name x pos) X.env) Q E s := by
  obtain ⟨mb, h1, h2⟩ := I.mod.blt
  exact Calls.Name_function_global I.ok.kind hg (Calls.loadGlobal_builtin (by rw [I.ok.glob]; exact I.mod.glob.keeps I.bk) hm (by rw [I.ok.blt]; exact h1.keeps I.bk) ((h2 x hn).trans hv) h) hd
/-- a module's constant, a class, a function, as a value -/
theorem pe_glob {x : Str} {v : V} {u : Value} {pos : Pos} (hg : Gl X x) (hm : X.mg x = some u) (r : RelV v u) (hd : (x == ("__debug__" : Str)) = false := by decide) : PE X (.Name x pos) (tC v) :=
  fun _ _ _ H _ I h => ld_glob I hg hm ⟨v, H, I, r, h⟩ hd
theorem pe_bltn {x : Str} {v : V} {u : Value} {pos : Pos} (hg : Gl X x) (hm : X.mg x = none) (hv : bootBuiltins x = some u) (r : RelV v u) (hn : x ≠ "__name__" := by decide) (hd : (x == ("__debug__" : Str)) = false := by decide) : PE X (.Name x pos) (tC v) :=
  fun _ _ _ H _ I h => ld_blt I hg hm hv ⟨v, H, I, r, h⟩ hn hd

/-! ### arithmetic -/
variable {a b : Expr} {ta tb : TE} {pos : Pos}
/-! ### comparisons -/
/-- a comparison as a value, as a test -/
def tB (t : TE) : TT := fun σ H Q => t σ H fun x H1 => ∃ c, x = .bl c ∧ Q c H1
/-- an expression whose value is a bool, as a test -/
theorem pt_val {e : Expr} {t : TE} (h : PE X e t) (he : ∀ whole, isTrue e X.env whole = (do let v ← whole; standAt e.pos; holding [v] (truthy v)) := by intro _; rfl) : PT X e (tB t) := by
  intro pins s σ H Q I hw
  refine isTrue_plain (thn (h pins s σ H _ I hw) fun v s1 ⟨x, H1, I1, r1, q1⟩ => ?_) (he _)
  obtain ⟨d, rfl, q⟩ := q1
  cases r1
  exact wpAny_truthy_bool ⟨H1, I1, q⟩

/-! ### and, or, not -/
variable {tA tB' : TT} {rest : List Expr}
def tAnd (t u : TT) : TT := fun σ H Q => t σ H fun c H1 => if c = true then u σ H1 Q else Q false H1
def tOr (t u : TT) : TT := fun σ H Q => t σ H fun c H1 => if c = true then Q true H1 else u σ H1 Q
def tNot (t : TT) : TT := fun σ H Q => t σ H fun c H1 => Q (!c) H1
theorem pw_and1 (ha : PT X a tA) : PW X (.BoolOp .And [a] pos) tA := by
  intro wh pins s σ H Q I h
  refine isTrue_and (thn (ha pins s σ H Q I h) fun c s1 e => ?_)
  cases c with
  | true => exact isTrue_and_nil e
  | false => exact e
theorem pw_or1 (ha : PT X a tA) : PW X (.BoolOp .Or [a] pos) tA := by
  intro wh pins s σ H Q I h
  refine isTrue_or (thn (ha pins s σ H Q I h) fun c s1 e => ?_)
  cases c with
  | false => exact isTrue_or_nil e
  | true => exact e
theorem pw_and (ha : PT X a tA) (hb : PW X (.BoolOp .And (b :: rest) pos) tB') : PW X (.BoolOp .And (a :: b :: rest) pos) (tAnd tA tB') := by
  intro wh pins s σ H Q I h
  refine isTrue_and (thn (ha pins s σ H _ I h) fun c s1 ⟨H1, I1, q1⟩ => ?_)
  cases c with
  | true => exact hb wh pins s1 σ H1 Q I1 q1
  | false => exact ⟨H1, I1, q1⟩
theorem pw_or (ha : PT X a tA) (hb : PW X (.BoolOp .Or (b :: rest) pos) tB') : PW X (.BoolOp .Or (a :: b :: rest) pos) (tOr tA tB') := by
  intro wh pins s σ H Q I h
  refine isTrue_or (thn (ha pins s σ H _ I h) fun c s1 ⟨H1, I1, q1⟩ => ?_)
  cases c with
  | true => exact ⟨H1, I1, q1⟩
  | false => exact hb wh pins s1 σ H1 Q I1 q1
theorem pt_not (ha : PT X a tA) : PT X (.UnaryOp .Not a pos) (tNot tA) := by
  intro pins s σ H Q I h
  exact isTrue_not (ha pins s σ H (fun c H1 => Q (!c) H1) I h)
/-- .. as values (bools) -/
def tAndV (ta tb : TE) : TE := fun σ H Q => ta σ H fun x H1 => ∃ c, x = .bl c ∧ if c = true then tb σ H1 Q else Q (.bl false) H1
def tNotV (ta : TE) : TE := fun σ H Q => ta σ H fun x H1 => ∃ c, x = .bl c ∧ Q (.bl (!c)) H1
theorem pe_one {op} {t : TE} (h : PE X a t) : PE X (.BoolOp op [a] pos) t := fun pins s σ H Q I hw => BoolOp_one (h pins s σ H Q I hw)
theorem pe_and (ha : PE X a ta) (hb : PE X (.BoolOp .And (b :: rest) pos) tb) : PE X (.BoolOp .And (a :: b :: rest) pos) (tAndV ta tb) := by
  intro pins s σ H Q I h
  refine BoolOp_and (thn (ha pins s σ H _ I h) fun v s1 ⟨x, H1, I1, r1, q1⟩ => ?_)
  obtain ⟨c, rfl, q1⟩ := q1
  cases r1
  refine wpAny_truthy_bool ?_
  cases c with
  | true => exact hb pins s1 σ H1 Q I1 q1
  | false => exact ⟨.bl false, H1, I1, rfl, q1⟩
theorem pe_not (ha : PE X a ta) : PE X (.UnaryOp .Not a pos) (tNotV ta) := by
  intro pins s σ H Q I h
  refine UnaryOp_ (thn (ha pins s σ H _ I h) fun v s1 ⟨x, H1, I1, r1, q1⟩ => ?_)
  obtain ⟨c, rfl, q1⟩ := q1
  cases r1
  exact not_of (wpAny_truthy_bool ⟨.bl (!c), H1, I1, rfl, q1⟩)
end
end L2

namespace L2
open PySem PySem.Spec PyProof.Rows

/-! ### a list, a tuple that is read: tracked, frozen, or an object of the module -/
def SqL (K : PySem.W.Frag) (H : Hp) (a : Addr) (xs : List V) : Prop :=
  Rd H a (.lst xs) ∨
    ∃ (o : Obj) (its : Array Value) (n : Nat), K.lookup a = some o ∧ o.cls = .type "list" ∧ o.dict = none ∧ o.data = .seq its n ∧ its.size ≤ sizeLine ∧ Vals xs its.toList
def SqT (K : PySem.W.Frag) (H : Hp) (a : Addr) (xs : List V) : Prop :=
  Rd H a (.tup xs) ∨
    ∃ (o : Obj) (its : Array Value) (n : Nat), K.lookup a = some o ∧ o.cls = .type "tuple" ∧ o.data = .seq its n ∧ its.size ≤ sizeLine ∧ Vals xs its.toList
def absV : Value → Option V
  | .none => some .non
  | .bool b => some (.bl b)
  | .int i _ => some (.int i)
  | .str x _ => some (.str x)
  | .bytes b _ => some (.byt b)
  | .float b _ => some (.flt b)
  | .ref a => some (.ref a)
  | .type n => some (.ty n)
  | _ => none
theorem RelV.abs {x : V} {u : Value} (r : RelV x u) : absV u = some x := by
  cases x with
  | non => cases r; rfl
  | bl _ => cases r; rfl
  | int _ => obtain ⟨t, rfl⟩ := r; rfl
  | str _ => obtain ⟨t, rfl⟩ := r; rfl
  | byt _ => obtain ⟨t, rfl⟩ := r; rfl
  | flt _ => obtain ⟨t, rfl⟩ := r; rfl
  | ref _ => cases r; rfl
  | ty _ => cases r; rfl
theorem RelV.inj {x y : V} {u : Value} (r : RelV x u) (q : RelV y u) : x = y := Option.some.inj (r.abs.symm.trans q.abs)
theorem Vals.inj : ∀ {xs ys : List V} {us : List Value}, Vals xs us → Vals ys us → xs = ys
  | _, _, _, .nil, .nil => rfl
  | _, _, _, .cons r t, .cons r' t' => by rw [r.inj r', Vals.inj t t']
section
variable {X : Cx} {pins : List (Addr × Obj)} {σ : St} {H : Hp} {s : Shared} {a : Addr} {xs ys : List V}
theorem SqL.of {K : PySem.W.Frag} (h : H a = some (.lst xs)) : SqL K H a xs := .inl (.inl h)
theorem SqT.of {K : PySem.W.Frag} (h : H a = some (.tup xs)) : SqT K H a xs := .inl (.inl h)
theorem Inv.list (I : Inv X pins σ H s) (h : SqL X.K H a xs) : ∃ its : List Value, Vals xs its ∧ PlainL s.heap a its.toArray ∧ xs.length ≤ sizeLine := by
  rcases h with h | ⟨o, its, n, hk, hc, hd, hs, hz, r⟩
  · obtain ⟨z, its, n, r, e⟩ := h.ok I.hok
    exact ⟨its, r, ⟨_, n, e, rfl, rfl, rfl⟩, z⟩
  · refine ⟨its.toList, r, ⟨o, n, I.kIn a o hk, hc, hd, by simpa using hs⟩, ?_⟩
    have e := r.length
    simp only [Array.length_toList] at e
    omega
theorem Inv.tuple (I : Inv X pins σ H s) (h : SqT X.K H a xs) : ∃ its : List Value, Vals xs its ∧ IsTup s.heap a its.toArray ∧ xs.length ≤ sizeLine := by
  rcases h with h | ⟨o, its, n, hk, hc, hs, hz, r⟩
  · obtain ⟨z, its, r, p⟩ := h.ok I.hok
    exact ⟨its, r, p.is, z⟩
  · refine ⟨its.toList, r, ⟨o, I.kIn a o hk, hc, n, by simpa using hs⟩, ?_⟩
    have e := r.length
    simp only [Array.length_toList] at e
    omega
theorem Inv.list_inj (I : Inv X pins σ H s) (h : SqL X.K H a xs) (h' : SqL X.K H a ys) : xs = ys := by
  obtain ⟨its, r, ⟨o, n, e, _, _, d⟩, _⟩ := I.list h
  obtain ⟨its', r', ⟨o', n', e', _, _, d'⟩, _⟩ := I.list h'
  rw [e] at e'; cases e'
  rw [d] at d'
  injection d' with d1 _
  have : its = its' := by simpa using congrArg Array.toList d1
  subst this
  exact r.inj r'
theorem Inv.tuple_inj (I : Inv X pins σ H s) (h : SqT X.K H a xs) (h' : SqT X.K H a ys) : xs = ys := by
  obtain ⟨its, r, ⟨o, e, _, n, d⟩, _⟩ := I.tuple h
  obtain ⟨its', r', ⟨o', e', _, n', d'⟩, _⟩ := I.tuple h'
  rw [e] at e'; cases e'
  rw [d] at d'
  injection d' with d1 _
  have : its = its' := by simpa using congrArg Array.toList d1
  subst this
  exact r.inj r'
end

/-! ### another wish about exceptions -/
abbrev Cx.wish (X : Cx) (E : Value → Shared → Prop) : Cx := { X with xe := E }
/-- no exception leaves -/
abbrev Cx.nox (X : Cx) : Cx := X.wish fun _ _ => False
theorem Cx.Ok.wish {X : Cx} (ok : X.Ok) (E : Value → Shared → Prop) : (X.wish E).Ok :=
  ⟨ok.mod, ok.kind, ok.glob, ok.blt, ok.above, ok.inj, ok.has, ok.cab, ok.hd, ok.frames, ok.stk, ok.exf, ok.bs, ok.bsz, ok.noex, ok.exfs, ok.funs, ok.frf⟩
theorem Cx.Ok.unwish {X : Cx} {E : Value → Shared → Prop} (ok : (X.wish E).Ok) : X.Ok :=
  ⟨ok.mod, ok.kind, ok.glob, ok.blt, ok.above, ok.inj, ok.has, ok.cab, ok.hd, ok.frames, ok.stk, ok.exf, ok.bs, ok.bsz, ok.noex, ok.exfs, ok.funs, ok.frf⟩
section
variable {X : Cx} {pins : List (Addr × Obj)} {σ : St} {H : Hp} {s : Shared} {E : Value → Shared → Prop}
theorem Inv.wish (I : Inv X pins σ H s) (E : Value → Shared → Prop) : Inv (X.wish E) pins σ H s := ⟨I.ok.wish E, I.os, I.bare, I.base, I.loc, I.cell, I.free, I.freeC, I.pin, I.hok, I.len⟩
theorem Inv.unwish (I : Inv (X.wish E) pins σ H s) : Inv X pins σ H s := ⟨I.ok.unwish, I.os, I.bare, I.base, I.loc, I.cell, I.free, I.freeC, I.pin, I.hok, I.len⟩
theorem SP.unwish {D : Ends} {f : Flow} {s' : Shared} (h : SP (X.wish E) pins D f s') : SP X pins D f s' := by
  cases f with
  | next => obtain ⟨σ', H', I, q⟩ := h; exact ⟨σ', H', I.unwish, q⟩
  | brk => obtain ⟨σ', H', I, q⟩ := h; exact ⟨σ', H', I.unwish, q⟩
  | cont => obtain ⟨σ', H', I, q⟩ := h; exact ⟨σ', H', I.unwish, q⟩
  | ret u => obtain ⟨v, σ', H', I, r, q⟩ := h; exact ⟨v, σ', H', I.unwish, r, q⟩
theorem PSs.nox {st : List Stmt} {t : TS} (h : PSs X.nox st t) : PSs X st t := fun pins s σ H D I hw =>
  wpAny_mono (h pins s σ H D (I.wish _) hw) (fun _ _ q => q.unwish) fun _ _ z => False.elim z
end

/-! ### blocks and small statements -/
section
variable {X : Cx} {st : Stmt} {rest : List Stmt} {t u : TS} {e : Expr} {te : TE} {pos : Pos}
def tNext : TS := fun D σ H => D.nx σ H
def tSeq (t u : TS) : TS := fun D σ H => t { D with nx := u D } σ H
theorem pss_nil : PSs X [] tNext := fun _ _ σ H _ I h => wpAny_execs_nil ⟨σ, H, I, h⟩
theorem pss_cons (h1 : PS X st t) (h2 : PSs X rest u) : PSs X (st :: rest) (tSeq t u) := by
  intro pins s σ H D I h
  refine wpAny_execs_cons (thn (h1 pins s σ H { D with nx := u D } I h) fun f s1 q => ?_)
  cases f with
  | next =>
    obtain ⟨σ', H', I', q⟩ := q
    exact h2 pins s1 σ' H' D I' q
  | ret v => exact q
  | brk => exact q
  | cont => exact q
theorem pss_one (h1 : PS X st t) : PSs X [st] t := by
  intro pins s σ H D I h
  refine wpAny_execs_cons (thn (h1 pins s σ H D I h) fun f s1 q => ?_)
  cases f with
  | next => exact wpAny_execs_nil q
  | ret v => exact q
  | brk => exact q
  | cont => exact q
/-- in a def's body nothing is shown -/
theorem Inv.quiet {pins : List (Addr × Obj)} {σ : St} {H : Hp} {s : Shared} (I : Inv X pins σ H s) : interactive X.env = false := by simp [interactive, I.ok.kind]
/-- an expression whose value is dropped -/
def tDrop (te : TE) : TS := fun D σ H => te σ H fun _ H1 => D.nx σ H1
theorem ps_expr (he : PE X e te) (hs : swapsWith e none pos.line X.env = pure false := by rfl) : PS X (.Expr e pos) (tDrop te) := by
  intro pins s σ H D I h
  exact wpAny_Expr_any (thn (he pins s σ H _ I h) fun v s1 ⟨x, H1, I1, r1, q1⟩ => ⟨σ, H1, I1, q1⟩) I.quiet hs
def tRet (te : TE) : TS := fun D σ H => te σ H D.rt
theorem ps_ret (he : PE X e te) : PS X (.Return (some e) pos) (tRet te) := by
  intro pins s σ H D I h
  exact wpAny_Return_some (thn (he pins s σ H _ I h) fun v s1 ⟨x, H1, I1, r1, q1⟩ => ⟨x, σ, H1, I1, r1, q1⟩)
def tIfS (c : TT) (t u : TS) : TS := fun D σ H => c σ H fun b H1 => if b = true then t D σ H1 else u D σ H1
theorem ps_if {c : Expr} {a b : List Stmt} {tc : TT} (hc : PT X c tc) (ha : PSs X a t) (hb : PSs X b u) : PS X (.If c a b pos) (tIfS tc t u) := by
  intro pins s σ H D I h
  refine wpAny_If (thn (hc pins s σ H _ I h) fun d s1 ⟨H1, I1, q1⟩ => ?_)
  cases d with
  | true => exact ha pins s1 σ H1 D I1 q1
  | false => exact hb pins s1 σ H1 D I1 q1
end

/-! ### targets -/
abbrev TG := V → St → Hp → (St → Hp → Prop) → Prop
abbrev TGs := List V → St → Hp → (St → Hp → Prop) → Prop
def PG (X : Cx) (target : Expr) (t : TG) : Prop :=
  ∀ (pins : List (Addr × Obj)) (s : Shared) (σ : St) (H : Hp) (v : V) (u : Value) (Q : St → Hp → Prop), Inv X pins σ H s → RelV v u → t v σ H Q →
    wpAny (model X.prog X.w) X.A (assign target X.env u) (fun _ s' => ∃ σ' H', Inv X pins σ' H' s' ∧ Q σ' H') X.xe s
/-- several targets, one after another -/
def PGs (X : Cx) (ts : List Expr) (t : TGs) : Prop :=
  ∀ (pins : List (Addr × Obj)) (s : Shared) (σ : St) (H : Hp) (vs : List V) (us : List Value) (Q : St → Hp → Prop), Inv X pins σ H s → Vals vs us → t vs σ H Q →
    wpAny (model X.prog X.w) X.A (assignInOrder ((assignEach ts X.env).map (·.2)) us) (fun _ s' => ∃ σ' H', Inv X pins σ' H' s' ∧ Q σ' H') X.xe s
section
variable {X : Cx} {pos : Pos}
def gName (i : Nat) : TG := fun v σ H Q => Q (σ.set i (some v)) H
theorem pg_name {i : Nat} {x : Str} (hN : X.N.Nodup) (hi : X.N[i]? = some x) (hx : Loc X.env.scope x) (hf : X.fn x = true ∨ X.env.scope.names.lookup x = some .local := by first | exact .inl rfl | exact .inr rfl | assumption) : PG X (.Name x pos) (gName i) := by
  intro pins s σ H v u Q I r h
  exact wpAny_assign_Name (store_ok I hN hi hx r (fun s' I' => ⟨_, H, I', h⟩) hf)
def gNil : TGs := fun vs σ H Q => vs = [] ∧ Q σ H
def gCons (t : TG) (u : TGs) : TGs := fun vs σ H Q => ∃ v r, vs = v :: r ∧ t v σ H fun σ' H' => u r σ' H' Q
theorem pgs_nil : PGs X [] gNil := by
  intro pins s σ H vs us Q I r h
  obtain ⟨e, h⟩ := h
  subst e
  cases r
  exact assignInOrder_nil ⟨σ, H, I, h⟩
theorem pgs_cons {e : Expr} {es : List Expr} {t : TG} {u : TGs} (h1 : PG X e t) (h2 : PGs X es u)
    (hs : (assignEach (e :: es) X.env).map (·.2) = assign e X.env :: (assignEach es X.env).map (·.2) := by rfl) : PGs X (e :: es) (gCons t u) := by
  intro pins s σ H vs us Q I r h
  obtain ⟨v, vr, e1, h⟩ := h
  subst e1
  cases r with
  | cons r rr =>
    rw [hs]
    refine assignInOrder_cons (thn (h1 pins s σ H _ _ _ I r h) fun _ s1 ⟨σ1, H1, I1, q1⟩ => ?_)
    exact h2 pins s1 σ1 H1 _ _ Q I1 rr q1
/-- (a, b, ..) = a tuple of that length -/
def gTup (K : PySem.W.Frag) (n : Nat) (t : TGs) : TG := fun v σ H Q => ∃ a xs, v = .ref a ∧ SqT K H a xs ∧ xs.length = n ∧ t xs σ H Q
theorem pg_tup {es : List Expr} {k : Nat} {t : TGs} {n : Nat} (hc : X.calm = true) (h : PGs X es t)
    (hn : (assignEach es X.env).length = n := by rfl) (hst : (assignEach es X.env).findIdx? (·.1) = none := by rfl) : PG X (.Tuple es k pos) (gTup X.K n t) := by
  intro pins s σ H v u Q I r hw
  obtain ⟨a, xs, e1, hq, hl, hw⟩ := hw
  subst e1
  cases r
  obtain ⟨its, rv, ht, hz⟩ := I.tuple hq
  refine assign_Tuple_tuple (I.ok.hd hc) ht (by simp [hn, ← hl, rv.length]) hst fun h' hx => ?_
  have I1 : Inv X pins σ H { s with heap := h' } := I.kept (t' := s.toks) fun b o e => hx b o (Nat.ne_of_lt (Heap.lt_size e)) e
  exact h pins _ σ H xs _ Q I1 (by simpa using rv) hw
/-- target = value -/
def tAsg (te : TE) (g : TG) : TS := fun D σ H => te σ H fun x H1 => g x σ H1 D.nx
theorem ps_asg {tg e : Expr} {te : TE} {g : TG} (he : PE X e te) (hg : PG X tg g) (hs : swapsWithSole [tg] e pos.line X.env = pure false := by rfl) (hw : swappedStores [tg] e X.env = pure none := by rfl)
    (h1 : (assignEach [tg] X.env).map (·.2) = [assign tg X.env] := by rfl) : PS X (.Assign [tg] e pos) (tAsg te g) := by
  intro pins s σ H D I h
  refine wpAny_Assign_stores (thn (he pins s σ H _ I h) fun v s1 ⟨x, H1, I1, r1, q1⟩ => ?_) hs hw
  rw [h1]
  exact thn (hg pins s1 σ H1 x v _ I1 r1 q1) fun _ s2 q => q
/-- name = value -/
theorem ps_set {i : Nat} {x : Str} {e : Expr} {te : TE} {pos' : Pos} (hN : X.N.Nodup) (hi : X.N[i]? = some x) (hx : Loc X.env.scope x) (he : PE X e te) (hs : swapsWith e (some (.Name x pos')) pos.line X.env = pure false := by rfl) (hf : X.fn x = true ∨ X.env.scope.names.lookup x = some .local := by first | exact .inl rfl | exact .inr rfl | assumption) :
    PS X (.Assign [.Name x pos'] e pos) (tAsg te (gName i)) := by
  intro pins s σ H D I h
  refine wpAny_Assign_Name (thn (he pins s σ H _ I h) fun v s1 ⟨y, H1, I1, r1, q1⟩ => ?_) hs
  exact store_ok I1 hN hi hx r1 (fun s2 I2 => ⟨_, H1, I2, q1⟩) hf
/-- a, b = x, y with plain local names: stored from the right; the pair itself is not tracked (the opening rows as in PyProof/Rows/TupAssign.lean:23) -/
def tPar (i j : Nat) (ta : TA) : TS := fun D σ H => ta σ H fun vs H1 => ∃ v w, vs = [v, w] ∧ D.nx ((σ.set i (some v)).set j (some w)) H1
theorem ps_par {i j : Nat} {x y : Str} {a b : Expr} {ta : TA} {px py pt : Pos} {kt k2 pt2} (hc : X.calm = true) (hN : X.N.Nodup) (hi : X.N[i]? = some x) (hj : X.N[j]? = some y) (hij : i ≠ j)
    (hx : X.env.scope.names.lookup x = some .local) (hy : X.env.scope.names.lookup y = some .local) (ha : PA X [a, b] ta)
    (hw : swappedStores [.Tuple [.Name x px, .Name y py] kt pt] (.Tuple [a, b] k2 pt2) X.env = pure (some [x, y]))
    (hs : swapsWithSole [.Tuple [.Name x px, .Name y py] kt pt] (.Tuple [a, b] k2 pt2) pos.line X.env = pure false := by rfl) :
    PS X (.Assign [.Tuple [.Name x px, .Name y py] kt pt] (.Tuple [a, b] k2 pt2) pos) (tPar i j ta) := by
  intro pins s σ H D I h
  rw [exec_Assign_arm]
  refine wpAny_bind (wpAny_standAt ?_)
  rw [hs]
  refine wpAny_bind (wpAny_pure ?_)
  rw [if_neg (by decide)]
  refine wpAny_bind (Tuple_ (thn (ha _ pins s σ H _ I h) fun us s1 ⟨vs, H1, I1, r1, q1⟩ => ?_))
  obtain ⟨v, w, e1, q1⟩ := q1
  subst e1
  obtain ⟨u1, u2, rfl, rv, rw'⟩ : ∃ u1 u2, us = [u1, u2] ∧ RelV v u1 ∧ RelV w u2 := by
    cases r1 with
    | cons p q =>
      cases q with
      | cons p' q' =>
        cases q'
        exact ⟨_, _, rfl, p, p'⟩
  refine wpAny_newObj_type ?_ (by show 2 ≤ sizeLine; decide)
  have I2 : Inv X pins σ H1 { s1 with heap := s1.heap.push { cls := .type "tuple", data := .seq [u1, u2].toArray } } := I1.kept (t' := s1.toks) fun b o e => Heap.get?_push_of_some _ e
  rw [hw]
  refine wpAny_bind (wpAny_pure ?_)
  show wpAny (model X.prog X.w) X.A (do rule "assign.swapped-stores"; let items ← unpackItems (.ref s1.heap.objs.size) 2 none; assignInOrder [fun v => bindName X.env y v, fun v => bindName X.env x v] items.reverse; pure Flow.next) _ _ _
  refine wpAny_bind (wpAny_rule (wpAny_bind (unpackItems_tuple (items := #[u1, u2]) (I.ok.hd hc) (IsTup.new s1.heap _) fun h' hx' => ?_)))
  have I3 := I2.kept (h' := h') (t' := s1.toks) fun b o e => hx' b o (Nat.ne_of_lt (Heap.lt_size e)) e
  show wpAny _ _ (assignInOrder [fun v => bindName X.env y v, fun v => bindName X.env x v] [u2, u1] >>= fun _ => pure Flow.next) _ _ _
  refine wpAny_bind (assignInOrder_cons (wpAny_bindName (store_ok I3 hN hj (.inl hy) rw' (fun s2 I4 => ?_) (.inr hy))))
  refine assignInOrder_cons (wpAny_bindName (store_ok I4 hN hi (.inl hx) rv (fun s3 I5 => assignInOrder_nil (wpAny_pure ?_)) (.inr hx)))
  rw [List.set_comm _ _ (Ne.symm hij)] at I5
  exact ⟨_, H1, I5, q1⟩
end

/-! ### while -/
section
variable {X : Cx} {pos : Pos}
/-- the invariant W with its measure -/
def tWhile (c : TT) (tb : TS) : TS := fun D σ H => ∃ W : Nat → St → Hp → Prop, (∃ m, W m σ H) ∧ ∀ m σ H, W m σ H →
  c σ H fun b H1 => if b = true then ∃ N : St → Hp → Prop, (∀ σ' H', N σ' H' → ∃ m', m' < m ∧ W m' σ' H') ∧ tb { D with nx := N, ct := N, bk := D.nx } σ H1 else D.nx σ H1
theorem ps_while {c : Expr} {body : List Stmt} {tc : TT} {tb : TS} (hp : PassesOwn (model X.prog X.w) X.A X.env X.xe) (hc : PT X c tc) (hb : PSs X body tb) : PS X (.While c body [] pos) (tWhile tc tb) := by
  intro pins s σ H D I h
  obtain ⟨W, ⟨m0, w0⟩, turn⟩ := h
  refine wpAny_While (codeAny_whileLoop (fun n s' => ∃ σ' H', Inv X pins σ' H' s' ∧ W n σ' H') ?_ m0 ⟨σ, H, I, w0⟩)
  rintro n s1 ⟨σ1, H1, I1, w1⟩
  refine wpAny_passesOwn hp (thn (hc pins s1 σ1 H1 _ I1 (turn n σ1 H1 w1)) fun b s2 ⟨H2, I2, q2⟩ => ?_)
  cases b with
  | true =>
    obtain ⟨N, hN, q2⟩ := q2
    rw [if_pos rfl]
    refine wpAny_passesOwn hp (thn (hb pins s2 σ1 H2 _ I2 q2) fun f s3 q3 => ?_)
    cases f with
    | next =>
      obtain ⟨σ3, H3, I3, n3⟩ := q3
      obtain ⟨m', hm, w3⟩ := hN σ3 H3 n3
      exact ⟨m', hm, σ3, H3, I3, w3⟩
    | cont =>
      obtain ⟨σ3, H3, I3, n3⟩ := q3
      obtain ⟨m', hm, w3⟩ := hN σ3 H3 n3
      exact ⟨m', hm, σ3, H3, I3, w3⟩
    | brk => exact q3
    | ret v => exact q3
  | false =>
    rw [if_neg Bool.false_ne_true]
    exact wpAny_execs_nil ⟨σ1, H2, I2, q2⟩
end

/-! ### what a loop or a comprehension walks -/
/-- at turn i: it yields x (the heap may grow), or it stops -/
structure It where
  go : Nat → Hp → Prop
  yld : Nat → Hp → V → Hp → Prop
  stop : Nat → Hp → Prop
/-- the iterator's own objects may turn: they are not the frame's, not pinned, younger than the entry (or a comprehension's own) -/
def FpOk (X : Cx) (pins : List (Addr × Obj)) (H : Hp) (b : Addr) : Prop :=
  H b = none ∧ b ≠ X.env.locals ∧ b ∉ X.fs ∧ (b ∈ X.ex ∨ X.s₀.heap.objs.size ≤ b) ∧ (∀ x c, X.env.cells.lookup x = some c → c ≠ b) ∧ ∀ p ∈ X.pn ++ pins, p.1 ≠ b
theorem Inv.fpOk {X : Cx} {pins : List (Addr × Obj)} {σ : St} {H H' : Hp} {s : Shared} {b : Addr} (I : Inv X pins σ H s) (hb : s.heap.objs.size ≤ b) (hn : H' b = none) : FpOk X pins H' b := by
  refine ⟨hn, Nat.ne_of_gt (Nat.lt_of_lt_of_le I.lt hb), I.nofs hb, .inr (Nat.le_trans I.sz hb), fun x c e z => ?_, fun p hp z => ?_⟩
  · obtain ⟨v, q⟩ := I.cell x c e
    exact absurd (Nat.lt_of_lt_of_le q.lt (by rw [z]; exact hb)) (Nat.lt_irrefl _)
  · exact absurd (Nat.lt_of_lt_of_le (Heap.lt_size (I.pin p hp).1) (by rw [z]; exact hb)) (Nat.lt_irrefl _)
structure Turn (P : Program) (w : World) (K : PySem.W.Frag) (tg : Expr) (J : It) (fp : List Addr) (it : Addr) (tn : Nat → Heap → Prop) : Prop where
  mem : it ∈ fp
  obj : ∀ i h, tn i h → ∀ b ∈ fp, ∃ o, h.get? b = some o ∧ ∀ v, o.data ≠ .cell v
  keep : ∀ i h h', tn i h → (∀ b ∈ fp, ∀ o, h.get? b = some o → h'.get? b = some o) → tn i h'
  item : ∀ (X : Cx), X.prog = P → X.w = w → X.K = K → X.calm = true → ∀ (i : Nat) (pins : List (Addr × Obj)) (s : Shared) (σ : St) (H : Hp) (E : Value → Shared → Prop), Inv X pins σ H s → (∀ b ∈ fp, FpOk X pins H b) → tn i s.heap → J.go i H →
    wpAny (model P w) X.A (pyNext (.ref it)) (fun r s1 => ∃ u, r = some u ∧
      wpAny (model P w) X.A (letOwnedTupleGo tg (.ref it) u) (fun _ s2 => ∃ x H', Inv X pins σ H' s2 ∧ RelV x u ∧ J.yld i H x H' ∧ tn (i + 1) s2.heap ∧ ∀ b ∈ fp, H' b = none) E s1) E s
  done : ∀ (X : Cx), X.prog = P → X.w = w → X.K = K → X.calm = true → ∀ (i : Nat) (pins : List (Addr × Obj)) (s : Shared) (σ : St) (H : Hp) (E : Value → Shared → Prop), Inv X pins σ H s → (∀ b ∈ fp, FpOk X pins H b) → tn i s.heap → J.stop i H →
    wpAny (model P w) X.A (pyNext (.ref it)) (fun r s1 => r = none ∧ Inv X pins σ H s1) E s
  self : ∀ (A : Around) (i : Nat) (s : Shared) (Q : Value → Shared → Prop) (E : Value → Shared → Prop), tn i s.heap → Q (.ref it) s → wpAny (model P w) A (pyIter (.ref it)) Q E s
abbrev TI := St → Hp → (It → Hp → Prop) → Prop
/-- an iterator has come -/
def PIE (X : Cx) (pins : List (Addr × Obj)) (σ : St) (tg : Expr) (R : It → Hp → Prop) (itv : Value) (s2 : Shared) : Prop :=
  ∃ (it : Addr) (fp : List Addr) (tn : Nat → Heap → Prop) (J : It) (H' : Hp), itv = .ref it ∧ Inv X pins σ H' s2 ∧ Turn X.prog X.w X.K tg J fp it tn ∧ tn 0 s2.heap ∧ (∀ b ∈ fp, FpOk X pins H' b) ∧ R J H'
def PI (X : Cx) (tg iter : Expr) (wi : TI) : Prop :=
  ∀ (pins : List (Addr × Obj)) (s : Shared) (σ : St) (H : Hp) (R : It → Hp → Prop), Inv X pins σ H s → wi σ H R →
    wpAny (model X.prog X.w) X.A (eval iter X.env) (fun v s1 => wpAny (model X.prog X.w) X.A (pyIter v) (PIE X pins σ tg R) X.xe s1) X.xe s

/-- the step ahead of the store is nothing for an iterator that keeps no tuple -/
theorem go_of {M : Model} {A : Around} {E : Value → Shared → Prop} {s : Shared} {tg : Expr} {it : Addr} {u : Value} {o : Obj} {n : String} {vs : Array Value} {Q : Unit → Shared → Prop} (ho : s.heap.get? it = some o) (hc : o.cls = .type n) (hd : o.data = .fields vs)
    (hn : ["enumerate", "zip", "dict_itemiterator", "dict_reverseitemiterator", "odict_iterator", "itertools.zip_longest", "itertools.pairwise"].contains n = false) (hQ : Q () s) : wpAny M A (letOwnedTupleGo tg (.ref it) u) Q E s := by
  unfold letOwnedTupleGo
  cases tg <;> first
    | exact wpAny_pure hQ
    | (cases u <;> first
        | exact wpAny_pure hQ
        | (refine wpAny_bind (wpAny_load ho ?_)
           rw [hc, hd]
           show wpAny M A (if (["enumerate", "zip", "dict_itemiterator", "dict_reverseitemiterator", "odict_iterator", "itertools.zip_longest", "itertools.pairwise"].contains n && vs[0]? == some (rawInt _)) = true then _ else _) Q E s
           rw [if_neg (by intro h; rw [hn, Bool.false_and] at h; cases h)]
           exact wpAny_pure hQ))

/-- the list at a, as it stands at each turn (a loop may append to it) -/
def Itl (K : PySem.W.Frag) (a : Addr) : It :=
  ⟨fun i H => ∃ xs x, SqL K H a xs ∧ xs[i]? = some x, fun i H x H' => H' = H ∧ ∀ xs, SqL K H a xs → xs[i]? = some x, fun i H => ∃ xs, SqL K H a xs ∧ xs.length ≤ i⟩
def Itt (K : PySem.W.Frag) (a : Addr) : It :=
  ⟨fun i H => ∃ xs x, SqT K H a xs ∧ xs[i]? = some x, fun i H x H' => H' = H ∧ ∀ xs, SqT K H a xs → xs[i]? = some x, fun i H => ∃ xs, SqT K H a xs ∧ xs.length ≤ i⟩
/-- lo, lo + 1, .. (n of them) -/
def Itr (lo : Int) (n : Nat) : It := ⟨fun i _ => i < n, fun i H x H' => H' = H ∧ x = .int (lo + i), fun i _ => n ≤ i⟩
theorem turn_list {P : Program} {w : World} {K : PySem.W.Frag} {tg : Expr} (a it : Addr) : Turn P w K tg (Itl K a) [it] it (fun i h => h.IsListIter it a i) where
  mem := by simp
  obj := fun i h st b hb => by
    have e : b = it := by simpa using hb
    subst e
    obtain ⟨o, e, c, d⟩ := st
    exact ⟨o, e, fun v z => by rw [d] at z; cases z⟩
  keep := fun i h h' st k => st.at fun o e => k it (by simp) o e
  item := by
    intro X hP hw hK hc i pins s σ H E I hf st hg
    subst hP hw hK
    obtain ⟨xs, x, hq, hx⟩ := hg
    obtain ⟨its, rv, p, hz⟩ := I.list hq
    obtain ⟨u, hu, ru⟩ := rv.get hx
    obtain ⟨f0, f1, f2, f3, f4, f5⟩ := hf it (by simp)
    refine wpAny_pyNext_list_item st p.isList (x := u) (by simpa using hu) fun h' st' sb => ?_
    have I1 : Inv X pins σ H { s with heap := h' } := I.turned (t' := s.toks) (fun b o hb e => (sb.2 b hb).trans e) f0 f1 f3 f4 f5
    obtain ⟨o, e, c, d⟩ := id st'
    exact ⟨u, rfl, go_of (s := { s with heap := h' }) e c d (by decide) ⟨x, H, I1, ru, ⟨rfl, fun ys hy => by rw [I.list_inj hy hq]; exact hx⟩, st', fun b hb => (hf b hb).1⟩⟩
  done := by
    intro X hP hw hK hc i pins s σ H E I hf st hg
    subst hP hw hK
    obtain ⟨xs, hq, hx⟩ := hg
    obtain ⟨its, rv, p, hz⟩ := I.list hq
    obtain ⟨f0, f1, f2, f3, f4, f5⟩ := hf it (by simp)
    have hl := rv.length
    exact wpAny_pyNext_list_end (I.ok.hd hc) st p.isList (by simp; omega) fun h' eb => ⟨rfl, I.turned (t' := s.toks) (fun b o hb e => eb b o hb e) f0 f1 f3 f4 f5⟩
  self := fun _ _ _ _ _ st h => wpAny_pyIter_listiter st h
theorem turn_tuple {P : Program} {w : World} {K : PySem.W.Frag} {tg : Expr} (a it : Addr) : Turn P w K tg (Itt K a) [it] it (fun i h => h.IsTupleIter it a i) where
  mem := by simp
  obj := fun i h st b hb => by
    have e : b = it := by simpa using hb
    subst e
    obtain ⟨o, e, c, d⟩ := st
    exact ⟨o, e, fun v z => by rw [d] at z; cases z⟩
  keep := fun i h h' st k => st.at fun o e => k it (by simp) o e
  item := by
    intro X hP hw hK hc i pins s σ H E I hf st hg
    subst hP hw hK
    obtain ⟨xs, x, hq, hx⟩ := hg
    obtain ⟨its, rv, p, hz⟩ := I.tuple hq
    obtain ⟨u, hu, ru⟩ := rv.get hx
    obtain ⟨f0, f1, f2, f3, f4, f5⟩ := hf it (by simp)
    refine wpAny_pyNext_tuple_item st (show s.heap.IsTuple a its.toArray from p) (x := u) (by simpa using hu) fun h' st' sb => ?_
    have I1 : Inv X pins σ H { s with heap := h' } := I.turned (t' := s.toks) (fun b o hb e => (sb.2 b hb).trans e) f0 f1 f3 f4 f5
    obtain ⟨o, e, c, d⟩ := id st'
    exact ⟨u, rfl, go_of (s := { s with heap := h' }) e c d (by decide) ⟨x, H, I1, ru, ⟨rfl, fun ys hy => by rw [I.tuple_inj hy hq]; exact hx⟩, st', fun b hb => (hf b hb).1⟩⟩
  done := by
    intro X hP hw hK hc i pins s σ H E I hf st hg
    subst hP hw hK
    obtain ⟨xs, hq, hx⟩ := hg
    obtain ⟨its, rv, p, hz⟩ := I.tuple hq
    obtain ⟨f0, f1, f2, f3, f4, f5⟩ := hf it (by simp)
    have hl := rv.length
    exact wpAny_pyNext_tuple_end (I.ok.hd hc) st (show s.heap.IsTuple a its.toArray from p) (by simp; omega) fun h' eb => ⟨rfl, I.turned (t' := s.toks) (fun b o hb e => eb b o hb e) f0 f1 f3 f4 f5⟩
  self := fun _ _ _ _ _ st h => wpAny_pyIter_tupleiter st h
theorem turn_range {P : Program} {w : World} {K : PySem.W.Frag} {tg : Expr} (it : Addr) (lo : Int) (n : Nat) : Turn P w K tg (Itr lo n) [it] it (fun i h => IsRangeIter h it (lo + (i : Nat) * 1) ((n : Int) - (i : Nat)) 1) where
  mem := by simp
  obj := fun i h st b hb => by
    have e : b = it := by simpa using hb
    subst e
    exact ⟨_, st, fun v z => by
      have z' : Data.fields _ = Data.cell v := z
      cases z'⟩
  keep := fun i h h' st k => k it (by simp) _ st
  item := by
    intro X hP hw hK hc i pins s σ H E I hf st hg
    subst hP hw hK
    obtain ⟨f0, f1, f2, f3, f4, f5⟩ := hf it (by simp)
    have W := Walks.range (prog := X.prog) (w := X.w) (I.ok.hd hc) it lo 1 n
    refine W.item i s _ _ hg st fun v h' tk hv st' kk => ?_
    obtain ⟨t, rfl⟩ := hv
    have I1 : Inv X pins σ H { s with heap := h', toks := tk } := I.turned (fun b o hb e => kk b o (by simpa using hb) e) f0 f1 f3 f4 f5
    refine ⟨_, rfl, go_of (s := { s with heap := h', toks := tk }) (n := "range_iterator") st' rfl rfl (by decide) ⟨.int (lo + i), H, I1, ⟨t, ?_⟩, ⟨rfl, rfl⟩, st', fun b hb => (hf b hb).1⟩⟩
    rw [Int.mul_one]
  done := by
    intro X hP hw hK hc i pins s σ H E I hf st hg
    subst hP hw hK
    obtain ⟨f0, f1, f2, f3, f4, f5⟩ := hf it (by simp)
    exact wpAny_pyNext_range_end (I.ok.hd hc) st (by have : n ≤ i := hg; omega) fun h' eb => ⟨rfl, I.turned (t' := s.toks) (fun b o hb e => eb b o hb e) f0 f1 f3 f4 f5⟩
  self := fun _ _ _ _ _ st h => wpAny_pyIter_rangeiter st h
end L2

namespace L2
open PySem PySem.Spec PyProof.Rows
section
variable {X : Cx} {tg : Expr}
def iList (K : PySem.W.Frag) (tl : TE) : TI := fun σ H R => tl σ H fun x H1 => ∃ a, x = .ref a ∧ (∃ xs, SqL K H1 a xs) ∧ R (Itl K a) H1
def iTup (K : PySem.W.Frag) (tl : TE) : TI := fun σ H R => tl σ H fun x H1 => ∃ a, x = .ref a ∧ (∃ xs, SqT K H1 a xs) ∧ R (Itt K a) H1
theorem pi_list {l : Expr} {tl : TE} (hl : PE X l tl) : PI X tg l (iList X.K tl) := by
  intro pins s σ H R I h
  refine thn (hl pins s σ H _ I h) fun v s1 ⟨x, H1, I1, r1, q1⟩ => ?_
  obtain ⟨a, e, ⟨xs, hq⟩, q⟩ := q1
  subst e
  cases r1
  obtain ⟨its, rv, p, hz⟩ := I1.list hq
  refine wpAny_pyIter_list p.isList ?_
  refine ⟨s1.heap.objs.size, [s1.heap.objs.size], _, _, H1, rfl, I1.kept (t' := s1.toks) fun b o e => Heap.get?_push_of_some _ e, turn_list a _, ⟨_, Heap.get?_push_size _ rfl, rfl, rfl⟩, fun b hb => ?_, q⟩
  have e : b = s1.heap.objs.size := by simpa using hb
  subst e
  exact I1.fpOk (Nat.le_refl _) (I1.hok.fresh (Nat.le_refl _))
theorem pi_tup {l : Expr} {tl : TE} (hl : PE X l tl) : PI X tg l (iTup X.K tl) := by
  intro pins s σ H R I h
  refine thn (hl pins s σ H _ I h) fun v s1 ⟨x, H1, I1, r1, q1⟩ => ?_
  obtain ⟨a, e, ⟨xs, hq⟩, q⟩ := q1
  subst e
  cases r1
  obtain ⟨its, rv, p, hz⟩ := I1.tuple hq
  refine wpAny_pyIter_tuple (show s1.heap.IsTuple a its.toArray from p) ?_
  refine ⟨s1.heap.objs.size, [s1.heap.objs.size], _, _, H1, rfl, I1.kept (t' := s1.toks) fun b o e => Heap.get?_push_of_some _ e, turn_tuple a _, ⟨_, Heap.get?_push_size _ rfl, rfl, rfl⟩, fun b hb => ?_, q⟩
  have e : b = s1.heap.objs.size := by simpa using hb
  subst e
  exact I1.fpOk (Nat.le_refl _) (I1.hok.fresh (Nat.le_refl _))
/-- a range object just made, walked -/
theorem range_it {pins : List (Addr × Obj)} {σ : St} {H : Hp} {s : Shared} {R : It → Hp → Prop} {E : Value → Shared → Prop} {lo hi : Int} {t u v : Tok} {tk : Nat} (I : Inv X pins σ H s) (h1 : -(2 ^ 62) ≤ lo) (h2 : lo < 2 ^ 62) (h3 : -(2 ^ 62) ≤ hi) (h4 : hi < 2 ^ 62)
    (q : R (Itr lo (hi - lo).toNat) H) : wpAny (model X.prog X.w) X.A (pyIter (.ref s.heap.objs.size)) (PIE X pins σ tg R) E { s with heap := s.heap.push { cls := .type "range", data := .fields #[.int lo t, .int hi u, .int 1 v] }, toks := tk } := by
  refine wpAny_pyIter_range (IsRange.new ..) (small_one h1 h2 h3 h4) ?_
  have I1 : Inv X pins σ H { s with heap := s.heap.push { cls := .type "range", data := .fields #[.int lo t, .int hi u, .int 1 v] }, toks := tk } := I.kept fun b o e => Heap.get?_push_of_some _ e
  refine ⟨(s.heap.push { cls := .type "range", data := .fields #[.int lo t, .int hi u, .int 1 v] }).objs.size, [(s.heap.push { cls := .type "range", data := .fields #[.int lo t, .int hi u, .int 1 v] }).objs.size], _, _, H, rfl,
    I1.kept (t' := tk) fun b o e => Heap.get?_push_of_some _ e, turn_range _ lo (hi - lo).toNat, ?_, fun b hb => ?_, q⟩
  · have e1 : lo + ((0 : Nat) : Int) * 1 = lo := by simp
    have e2 : (((hi - lo).toNat : Nat) : Int) - ((0 : Nat) : Int) = Builtin.Range.rangeSize lo hi 1 := by rw [rangeSize_one]; split <;> omega
    show IsRangeIter _ _ (lo + ((0 : Nat) : Int) * 1) ((((hi - lo).toNat : Nat) : Int) - ((0 : Nat) : Int)) 1
    rw [e1, e2]
    exact Heap.get?_push_size _ rfl
  · have e : b = (s.heap.push { cls := .type "range", data := .fields #[.int lo t, .int hi u, .int 1 v] }).objs.size := by simpa using hb
    subst e
    exact I1.fpOk (Nat.le_refl _) (I1.hok.fresh (Nat.le_refl _))
def iRng1 (ta : TA) : TI := fun σ H R => ta σ H fun vs H1 => ∃ j : Int, vs = [.int j] ∧ -(2 ^ 62) ≤ j ∧ j < 2 ^ 62 ∧ R (Itr 0 j.toNat) H1
def iRng2 (ta : TA) : TI := fun σ H R => ta σ H fun vs H1 => ∃ i j : Int, vs = [.int i, .int j] ∧ (-(2 ^ 62) ≤ i ∧ i < 2 ^ 62 ∧ -(2 ^ 62) ≤ j ∧ j < 2 ^ 62) ∧ R (Itr i (j - i).toNat) H1
theorem pi_range1 {a : Expr} {ta : TA} {p pos : Pos} (hg : Gl X "range") (hm : X.mg "range" = none) (ha : PA X [a] ta) (hs : starEach [a] X.env = [(false, eval a X.env)] := by rfl) : PI X tg (.Call (.Name "range" p) [a] [] pos) (iRng1 ta) := by
  intro pins s σ H R I h
  refine Call_ (ld_blt I hg hm boot_range (PyProof.Rows.callWith_type1 (thn (ha pos pins s σ H _ I h) fun us s1 ⟨vs, H1, I1, r1, q1⟩ => ?_) hs rfl))
  obtain ⟨j, e, q1, q2, q⟩ := q1
  subst e
  cases r1 with
  | cons r rr =>
    cases rr
    obtain ⟨t, rfl⟩ := r
    exact call_range_1 (range_it I1 (by omega) (by omega) q1 q2 (by simpa using q))
theorem pi_range2 {a b : Expr} {ta : TA} {p pos : Pos} (hg : Gl X "range") (hm : X.mg "range" = none) (ha : PA X [a, b] ta) (hs : starEach [a, b] X.env = [(false, eval a X.env), (false, eval b X.env)] := by rfl) (hs2 : starEach [b] X.env = [(false, eval b X.env)] := by rfl) :
    PI X tg (.Call (.Name "range" p) [a, b] [] pos) (iRng2 ta) := by
  intro pins s σ H R I h
  refine Call_ (ld_blt I hg hm boot_range (PyProof.Rows.callWith_type1 (thn (ha pos pins s σ H _ I h) fun us s1 ⟨vs, H1, I1, r1, q1⟩ => ?_) (by rw [hs, hs2]) (by rw [hs2]; rfl)))
  obtain ⟨i, j, e, ⟨q1, q2, q3, q4⟩, q⟩ := q1
  subst e
  cases r1 with
  | cons r rr =>
    cases rr with
    | cons r' rr =>
      cases rr
      obtain ⟨t, rfl⟩ := r
      obtain ⟨t', rfl⟩ := r'
      exact call_range_2 (range_it I1 q1 q2 q3 q4 q)

/-! ### for -/
/-- W: the invariant by the turn and a measure; N: what the body is to reach -/
def tFor (wi : TI) (g : TG) (tb : TS) : TS := fun D σ H => wi σ H fun J H1 => ∃ W : Nat → Nat → St → Hp → Prop, (∃ m, W 0 m σ H1) ∧ ∀ i m σ H, W i m σ H →
  (J.stop i H ∧ D.nx σ H) ∨ (J.go i H ∧ ∃ N : St → Hp → Prop, (∀ σ' H', N σ' H' → ∃ m', m' < m ∧ W (i + 1) m' σ' H') ∧ ∀ x H', J.yld i H x H' → g x σ H' fun σ2 H2 => tb { D with nx := N, ct := N, bk := D.nx } σ2 H2)
/-- the records at fp as they stand -/
def pinsAt (fp : List Addr) (h : Heap) : List (Addr × Obj) := fp.filterMap fun b => (h.get? b).map fun o => (b, o)
theorem mem_pinsAt {fp : List Addr} {h : Heap} {b : Addr} {o : Obj} (hb : b ∈ fp) (e : h.get? b = some o) : (b, o) ∈ pinsAt fp h := List.mem_filterMap.mpr ⟨b, hb, by rw [e]; rfl⟩
theorem of_pinsAt {fp : List Addr} {h : Heap} {p : Addr × Obj} (hp : p ∈ pinsAt fp h) : p.1 ∈ fp ∧ h.get? p.1 = some p.2 := by
  obtain ⟨b, hb, e⟩ := List.mem_filterMap.mp hp
  cases q : h.get? b with
  | none => rw [q] at e; cases e
  | some o =>
    rw [q] at e
    have e' : (b, o) = p := Option.some.inj e
    subst e'
    exact ⟨hb, q⟩
theorem Inv.pinned {pins : List (Addr × Obj)} {σ : St} {H : Hp} {s : Shared} {fp : List Addr} (I : Inv X pins σ H s) (hf : ∀ b ∈ fp, FpOk X pins H b) (ho : ∀ b ∈ fp, ∃ o, s.heap.get? b = some o ∧ ∀ v, o.data ≠ .cell v) : Inv X (pins ++ pinsAt fp s.heap) σ H s :=
  I.pins_of fun p hp => (List.mem_append.mp hp).elim (fun z => I.pin p (List.mem_append_right _ z)) fun z => by
    obtain ⟨hb, e⟩ := of_pinsAt z
    obtain ⟨f0, f1, f2, _⟩ := hf p.1 hb
    obtain ⟨o, e', d⟩ := ho p.1 hb
    rw [e] at e'; cases e'
    exact ⟨e, f0, f1, f2, d⟩
theorem Inv.unpinned {pins pl : List (Addr × Obj)} {σ : St} {H : Hp} {s : Shared} (I : Inv X (pins ++ pl) σ H s) : Inv X pins σ H s := I.pins_of fun p hp => I.pin p (List.mem_append_right _ (List.mem_append_left _ hp))
theorem ps_for {iter : Expr} {body : List Stmt} {wi : TI} {g : TG} {tb : TS} {pos : Pos} (hp : PassesOwn (model X.prog X.w) X.A X.env X.xe) (hc : X.calm = true) (hi : PI X tg iter wi) (hg : PG X tg g) (hb : PSs X body tb)
    (hs : ∀ x, foldedSetIterable iter X.env x = pure x := by intro _; rfl) : PS X (.For tg iter body [] pos) (tFor wi g tb) := by
  intro pins s σ H D I h
  refine wpAny_For (thn (hi pins s σ H _ I h) fun v s1 h1 => thn h1 fun itv s2 h2 => ?_) hs
  obtain ⟨it, fp, tn, J, H2, e, I2, T, st2, f2, W, ⟨m0, w0⟩, turn⟩ := h2
  subst e
  -- what stays true of the iterator's objects through the loop
  have stat : ∀ {H' : Hp}, (∀ b ∈ fp, H' b = none) → ∀ b ∈ fp, FpOk X pins H' b := fun hn b hb => ⟨hn b hb, (f2 b hb).2⟩
  refine codeAny_forLoop_any (fun n s' => ∃ i σ' H', Inv X pins σ' H' s' ∧ tn i s'.heap ∧ (∀ b ∈ fp, H' b = none) ∧ W i n σ' H') ?_ m0 ⟨0, σ, H2, I2, st2, fun b hb => (f2 b hb).1, w0⟩
  rintro n s3 ⟨i, σ3, H3, I3, st3, fr3, w3⟩
  rcases turn i n σ3 H3 w3 with ⟨stop, qn⟩ | ⟨go, N, hN, step⟩
  · refine wpAny_passesOwn hp (thn (T.done X rfl rfl rfl hc i pins s3 σ3 H3 X.xe I3 (stat fr3) st3 stop) fun r s4 ⟨hr, I4⟩ => ?_)
    subst hr
    exact wpAny_execs_nil ⟨σ3, H3, I4, qn⟩
  · refine wpAny_passesOwn hp (thn (T.item X rfl rfl rfl hc i pins s3 σ3 H3 X.xe I3 (stat fr3) st3 go) fun r s4 ⟨u, hr, h4⟩ => ?_)
    subst hr
    refine wpAny_passesOwn hp (thn h4 fun _ s5 ⟨x, H5, I5, r5, y5, st5, fr5⟩ => ?_)
    have I5' := I5.pinned (stat fr5) (T.obj _ _ st5)
    refine wpAny_passesOwn hp (thn (hg _ s5 σ3 H5 x u _ I5' r5 (step x H5 y5)) fun _ s6 ⟨σ6, H6, I6, q6⟩ => ?_)
    refine wpAny_passesOwn hp (thn (hb _ s6 σ6 H6 _ I6 q6) fun f s7 q7 => ?_)
    have again : ∀ {σ7 : St} {H7 : Hp}, Inv X (pins ++ pinsAt fp s5.heap) σ7 H7 s7 → N σ7 H7 → ∃ m, m < n ∧ ∃ i σ' H', Inv X pins σ' H' s7 ∧ tn i s7.heap ∧ (∀ b ∈ fp, H' b = none) ∧ W i m σ' H' := fun {σ7 H7} I7 n7 => by
      obtain ⟨m', hm, w7⟩ := hN σ7 H7 n7
      refine ⟨m', hm, i + 1, σ7, H7, I7.unpinned, T.keep _ _ _ st5 fun b hb o e => (I7.pin (b, o) (List.mem_append_right _ (List.mem_append_right _ (mem_pinsAt hb e)))).1, fun b hb => ?_, w7⟩
      obtain ⟨o, e, d⟩ := T.obj _ _ st5 b hb
      exact (I7.pin (b, o) (List.mem_append_right _ (List.mem_append_right _ (mem_pinsAt hb e)))).2.1
    cases f with
    | next => obtain ⟨σ7, H7, I7, n7⟩ := q7; exact again I7 n7
    | cont => obtain ⟨σ7, H7, I7, n7⟩ := q7; exact again I7 n7
    | brk => obtain ⟨σ7, H7, I7, q7⟩ := q7; exact ⟨σ7, H7, I7.unpinned, q7⟩
    | ret v => obtain ⟨x7, σ7, H7, I7, r7, q7⟩ := q7; exact ⟨x7, σ7, H7, I7.unpinned, r7, q7⟩
end

/-! ### the forms one uses -/
/-- over a list that the body leaves as it is -/
theorem for_list {K : PySem.W.Frag} {a : Addr} {xs : List V} {g : TG} {tb : TS} {D : Ends} {σ : St} {H : Hp} (Pv : Nat → St → Hp → Prop) (h0 : Pv 0 σ H) (hl : ∀ i σ H, i ≤ xs.length → Pv i σ H → SqL K H a xs)
    (hs : ∀ i x σ H, xs[i]? = some x → Pv i σ H → g x σ H fun σ2 H2 => tb { D with nx := Pv (i + 1), ct := Pv (i + 1), bk := D.nx } σ2 H2) (hd : ∀ σ H, Pv xs.length σ H → D.nx σ H) :
    ∃ W : Nat → Nat → St → Hp → Prop, (∃ m, W 0 m σ H) ∧ ∀ i m σ H, W i m σ H →
      ((Itl K a).stop i H ∧ D.nx σ H) ∨ ((Itl K a).go i H ∧ ∃ N : St → Hp → Prop, (∀ σ' H', N σ' H' → ∃ m', m' < m ∧ W (i + 1) m' σ' H') ∧ ∀ x H', (Itl K a).yld i H x H' → g x σ H' fun σ2 H2 => tb { D with nx := N, ct := N, bk := D.nx } σ2 H2) := by
  refine ⟨fun i m σ H => m = xs.length - i ∧ i ≤ xs.length ∧ Pv i σ H, ⟨xs.length, by simp, Nat.zero_le _, h0⟩, ?_⟩
  rintro i m σ H ⟨rfl, hi, p⟩
  have q := hl i σ H hi p
  by_cases hlt : i < xs.length
  · refine .inr ⟨⟨xs, xs[i], q, by simp [hlt]⟩, Pv (i + 1), fun σ' H' p' => ⟨xs.length - (i + 1), Nat.sub_lt_sub_left hlt (Nat.lt_succ_self i), rfl, hlt, p'⟩, fun x H' y => ?_⟩
    obtain ⟨e, y⟩ := y
    subst e
    exact hs i x σ _ (y xs q) p
  · have e : i = xs.length := by omega
    subst e
    exact .inl ⟨⟨xs, q, Nat.le_refl _⟩, hd σ H p⟩
theorem for_tup {K : PySem.W.Frag} {a : Addr} {xs : List V} {g : TG} {tb : TS} {D : Ends} {σ : St} {H : Hp} (Pv : Nat → St → Hp → Prop) (h0 : Pv 0 σ H) (hl : ∀ i σ H, i ≤ xs.length → Pv i σ H → SqT K H a xs)
    (hs : ∀ i x σ H, xs[i]? = some x → Pv i σ H → g x σ H fun σ2 H2 => tb { D with nx := Pv (i + 1), ct := Pv (i + 1), bk := D.nx } σ2 H2) (hd : ∀ σ H, Pv xs.length σ H → D.nx σ H) :
    ∃ W : Nat → Nat → St → Hp → Prop, (∃ m, W 0 m σ H) ∧ ∀ i m σ H, W i m σ H →
      ((Itt K a).stop i H ∧ D.nx σ H) ∨ ((Itt K a).go i H ∧ ∃ N : St → Hp → Prop, (∀ σ' H', N σ' H' → ∃ m', m' < m ∧ W (i + 1) m' σ' H') ∧ ∀ x H', (Itt K a).yld i H x H' → g x σ H' fun σ2 H2 => tb { D with nx := N, ct := N, bk := D.nx } σ2 H2) := by
  refine ⟨fun i m σ H => m = xs.length - i ∧ i ≤ xs.length ∧ Pv i σ H, ⟨xs.length, by simp, Nat.zero_le _, h0⟩, ?_⟩
  rintro i m σ H ⟨rfl, hi, p⟩
  have q := hl i σ H hi p
  by_cases hlt : i < xs.length
  · refine .inr ⟨⟨xs, xs[i], q, by simp [hlt]⟩, Pv (i + 1), fun σ' H' p' => ⟨xs.length - (i + 1), Nat.sub_lt_sub_left hlt (Nat.lt_succ_self i), rfl, hlt, p'⟩, fun x H' y => ?_⟩
    obtain ⟨e, y⟩ := y
    subst e
    exact hs i x σ _ (y xs q) p
  · have e : i = xs.length := by omega
    subst e
    exact .inl ⟨⟨xs, q, Nat.le_refl _⟩, hd σ H p⟩
theorem for_range {lo : Int} {n : Nat} {g : TG} {tb : TS} {D : Ends} {σ : St} {H : Hp} (Pv : Nat → St → Hp → Prop) (h0 : Pv 0 σ H)
    (hs : ∀ i σ H, i < n → Pv i σ H → g (.int (lo + i)) σ H fun σ2 H2 => tb { D with nx := Pv (i + 1), ct := Pv (i + 1), bk := D.nx } σ2 H2) (hd : ∀ σ H, Pv n σ H → D.nx σ H) :
    ∃ W : Nat → Nat → St → Hp → Prop, (∃ m, W 0 m σ H) ∧ ∀ i m σ H, W i m σ H →
      ((Itr lo n).stop i H ∧ D.nx σ H) ∨ ((Itr lo n).go i H ∧ ∃ N : St → Hp → Prop, (∀ σ' H', N σ' H' → ∃ m', m' < m ∧ W (i + 1) m' σ' H') ∧ ∀ x H', (Itr lo n).yld i H x H' → g x σ H' fun σ2 H2 => tb { D with nx := N, ct := N, bk := D.nx } σ2 H2) := by
  refine ⟨fun i m σ H => m = n - i ∧ i ≤ n ∧ Pv i σ H, ⟨n, by simp, Nat.zero_le _, h0⟩, ?_⟩
  rintro i m σ H ⟨rfl, hi, p⟩
  by_cases hlt : i < n
  · refine .inr ⟨hlt, Pv (i + 1), fun σ' H' p' => ⟨n - (i + 1), Nat.sub_lt_sub_left hlt (Nat.lt_succ_self i), rfl, hlt, p'⟩, fun x H' y => ?_⟩
    obtain ⟨e, y⟩ := y
    subst e y
    exact hs i σ _ hlt p
  · have e : i = n := by omega
    subst e
    exact .inl ⟨Nat.le_refl _, hd σ H p⟩
end L2

namespace L2
open PySem PySem.Spec PyProof.Rows

abbrev R2 := V → V → Hp → VK → Prop
/-- a two-place operation on values: f is binaryOp op, inplaceOp op or compareOp op -/
def OpR (X : Cx) (f : Value → Value → Sem Value) (r : R2) : Prop :=
  ∀ (pins : List (Addr × Obj)) (s : Shared) (σ : St) (H : Hp) (x y : V) (v u : Value) (Q : VK), Inv X pins σ H s → RelV x v → RelV y u → r x y H Q →
    wpAny (model X.prog X.w) X.A (f v u) (EP X pins σ Q) X.xe s
/-- a call of a value that is known (a builtin, a type) with values -/
def CallR (X : Cx) (f : Value) (r : List V → Hp → VK → Prop) : Prop :=
  ∀ (pins : List (Addr × Obj)) (s : Shared) (σ : St) (H : Hp) (xs : List V) (us : List Value) (Q : VK), Inv X pins σ H s → Vals xs us → r xs H Q →
    wpAny (model X.prog X.w) X.A (call f us) (EP X pins σ Q) X.xe s
def tOp (r : R2) (ta tb : TE) : TE := fun σ H Q => ta σ H fun x H1 => tb σ H1 fun y H2 => r x y H2 Q
/-- ints in, under C, and a value out -/
def rI (C : Int → Int → Prop) (g : Int → Int → V) : R2 := fun x y H Q => ∃ i j, x = .int i ∧ y = .int j ∧ C i j ∧ Q (g i j) H
def rI0 (g : Int → Int → V) : R2 := fun x y H Q => ∃ i j, x = .int i ∧ y = .int j ∧ Q (g i j) H
section
variable {X : Cx} {a b c : Expr} {ta tb tc : TE} {pos : Pos}

theorem binT (ha : PE X a ta) (hb : PE X b tb) {pins : List (Addr × Obj)} {s : Shared} {σ : St} {H : Hp} {R : V → V → Hp → Prop} (I : Inv X pins σ H s)
    (h : ta σ H fun x H1 => tb σ H1 fun y H2 => R x y H2) {Q : Value → Shared → Prop} {f : Value → Value → Sem Value}
    (hf : ∀ v u s2 x y H2, Inv X pins σ H2 s2 → RelV x v → RelV y u → R x y H2 → wpAny (model X.prog X.w) X.A (f v u) Q X.xe s2) :
    wpAny (model X.prog X.w) X.A (eval a X.env) (fun v s₁ => wpAny (model X.prog X.w) X.A (eval b X.env) (fun u s₂ => wpAny (model X.prog X.w) X.A (f v u) Q X.xe s₂) X.xe s₁) X.xe s := by
  refine thn (ha pins s σ H _ I h) fun v s1 ⟨x, H1, I1, r1, q1⟩ => ?_
  refine thn (hb pins s1 σ H1 _ I1 q1) fun u s2 ⟨y, H2, I2, r2, q2⟩ => ?_
  exact hf v u s2 x y H2 I2 r1 r2 q2

theorem pe_op {op : Operator} {r : R2} (ho : OpR X (binaryOp op) r) (ha : PE X a ta) (hb : PE X b tb) : PE X (.BinOp a op b pos) (tOp r ta tb) := by
  intro pins s σ H Q I h
  exact wpAny_BinOp (binT ha hb I h fun v u s2 x y H2 I2 rx ry q => ho pins s2 σ H2 x y v u Q I2 rx ry q)
/-! ### ints -/
theorem opI {f : Value → Value → Sem Value} {C : Int → Int → Prop} {g : Int → Int → Int}
    (rule : ∀ (i j : Int) (t u : Tok) (s : Shared) (Q : Value → Shared → Prop) (E : Value → Shared → Prop), C i j → Q (.int (g i j) s.toks) { s with toks := s.toks + 1 } → wpAny (model X.prog X.w) X.A (f (.int i t) (.int j u)) Q E s) :
    OpR X f (rI C fun i j => .int (g i j)) := by
  intro pins s σ H x y v u Q I rx ry h
  obtain ⟨i, j, rfl, rfl, hc, q⟩ := h
  obtain ⟨t, rfl⟩ := rx
  obtain ⟨t', rfl⟩ := ry
  exact rule i j t t' s _ _ hc ⟨.int (g i j), H, I.tok _, ⟨_, rfl⟩, q⟩
theorem opI0 {f : Value → Value → Sem Value} {g : Int → Int → Int}
    (rule : ∀ (i j : Int) (t u : Tok) (s : Shared) (Q : Value → Shared → Prop) (E : Value → Shared → Prop), Q (.int (g i j) s.toks) { s with toks := s.toks + 1 } → wpAny (model X.prog X.w) X.A (f (.int i t) (.int j u)) Q E s) :
    OpR X f (rI0 fun i j => .int (g i j)) := by
  intro pins s σ H x y v u Q I rx ry h
  obtain ⟨i, j, rfl, rfl, q⟩ := h
  obtain ⟨t, rfl⟩ := rx
  obtain ⟨t', rfl⟩ := ry
  exact rule i j t t' s _ _ ⟨.int (g i j), H, I.tok _, ⟨_, rfl⟩, q⟩
theorem opB0 {f : Value → Value → Sem Value} {g : Int → Int → Bool}
    (rule : ∀ (i j : Int) (t u : Tok) (s : Shared) (Q : Value → Shared → Prop) (E : Value → Shared → Prop), Q (.bool (g i j)) s → wpAny (model X.prog X.w) X.A (f (.int i t) (.int j u)) Q E s) :
    OpR X f (rI0 fun i j => .bl (g i j)) := by
  intro pins s σ H x y v u Q I rx ry h
  obtain ⟨i, j, rfl, rfl, q⟩ := h
  obtain ⟨t, rfl⟩ := rx
  obtain ⟨t', rfl⟩ := ry
  exact rule i j t t' s _ _ ⟨.bl (g i j), H, I, rfl, q⟩

def CPow (i j : Int) : Prop := 0 ≤ j ∧ j ≤ 1000000 ∧ i.natAbs < 2 ^ 64
def CMul (i j : Int) : Prop := (-(2 ^ 64) < i ∧ i < 2 ^ 64) ∨ (-(2 ^ 64) < j ∧ j < 2 ^ 64)
theorem CMul.ok {i j : Int} (h : CMul i j) : IntMulOk i j := by
  rcases h with ⟨h1, h2⟩ | ⟨h1, h2⟩
  · exact .of_left (intBits_le_64 h1 h2)
  · exact .of_right (intBits_le_64 h1 h2)
theorem op_add : OpR X (binaryOp .Add) (rI0 fun i j => .int (i + j)) := opI0 fun _ _ _ _ _ _ _ q => add_int q
theorem op_sub : OpR X (binaryOp .Sub) (rI0 fun i j => .int (i - j)) := opI0 fun _ _ _ _ _ _ _ q => sub_int q
theorem op_mul : OpR X (binaryOp .Mult) (rI CMul fun i j => .int (i * j)) := opI fun _ _ _ _ _ _ _ hc q => mul_int q hc.ok
/-- % by a positive divisor of any size -/
theorem op_mod : OpR X (binaryOp .Mod) (rI (fun _ j => 0 < j) fun i j => .int (i % j)) := opI fun i j _ _ _ _ _ hc q => by
  have h1 : (0 : Int) < j := hc
  exact mod_int' (by omega) (by rw [Int.fmod_eq_emod_of_nonneg i (by omega)]; exact q)
theorem op_pow : OpR X (binaryOp .Pow) (rI CPow fun i j => .int (i ^ j.toNat)) := opI fun _ _ _ _ _ _ _ hc q => pow_int_small hc.1 hc.2.1 hc.2.2 q
/-! ### bools among ints: n += (a < b) -/
end

/-! ### comparisons -/
/-- the scalars that == tells apart as data does -/
def scal : V → V → Bool
  | .non, .non => true | .non, .int _ => true | .int _, .non => true | .non, .bl _ => true | .bl _, .non => true | .non, .str _ => true | .str _, .non => true
  | .int _, .int _ => true | .bl _, .bl _ => true | .str _, .str _ => true | .byt _, .byt _ => true
  | .int _, .str _ => true | .str _, .int _ => true | .bl _, .str _ => true | .str _, .bl _ => true
  | _, _ => false
def rEq : R2 := fun x y H Q => scal x y = true ∧ Q (.bl (decide (x = y))) H
def rNe : R2 := fun x y H Q => scal x y = true ∧ Q (.bl (!decide (x = y))) H

theorem dec_int {i j : Int} : decide (V.int i = V.int j) = (i == j) := by
  rw [Bool.eq_iff_iff]
  simp
theorem dec_bl {i j : Bool} : decide (V.bl i = V.bl j) = (i == j) := by
  rw [Bool.eq_iff_iff]
  simp
theorem dec_str {i j : Str} : decide (V.str i = V.str j) = (i == j) := by
  rw [Bool.eq_iff_iff]
  simp
theorem dec_byt {i j : Array UInt8} : decide (V.byt i = V.byt j) = (i.toList == j.toList) := by
  rw [Bool.eq_iff_iff]
  cases i
  cases j
  simp

section
variable {X : Cx} {a b c : Expr} {ta tb tc : TE} {pos : Pos}
theorem fin_bl {pins : List (Addr × Obj)} {σ : St} {H : Hp} {s : Shared} {Q : VK} {k k' : Bool} (I : Inv X pins σ H s) (q : Q (.bl k) H) (e : k = k') : EP X pins σ Q (.bool k') s := by
  subst e
  exact ⟨.bl k, H, I, rfl, q⟩
theorem op_eq : OpR X (compareOp .Eq) rEq := by
  intro pins s σ H x y v u Q I rx ry h
  obtain ⟨hs, q⟩ := h
  cases x with
  | non =>
    cases rx
    cases y with
    | non => cases ry; exact PySem.EqNone.eq_none_none (fin_bl I q (by simp))
    | bl j => cases ry; exact PySem.EqNone.eq_none_bool (fin_bl I q (by simp))
    | int j => obtain ⟨t', rfl⟩ := ry; exact PySem.EqNone.eq_none_int (fin_bl I q (by simp))
    | str j => obtain ⟨t', rfl⟩ := ry; exact PySem.EqNone.eq_none_str (fin_bl I q (by simp))
    | _ => exact absurd (show false = true from hs) Bool.false_ne_true
  | bl i =>
    cases rx
    cases y with
    | non => cases ry; exact PySem.EqNone.eq_bool_none (fin_bl I q (by simp))
    | bl j => cases ry; exact eq_bool (fin_bl I q dec_bl)
    | str j => obtain ⟨t', rfl⟩ := ry; exact PySem.EqMixed.eq_bool_str (fin_bl I q (by simp))
    | _ => exact absurd (show false = true from hs) Bool.false_ne_true
  | int i =>
    obtain ⟨t, rfl⟩ := rx
    cases y with
    | non => cases ry; exact PySem.EqNone.eq_int_none (fin_bl I q (by simp))
    | int j => obtain ⟨t', rfl⟩ := ry; exact eq_int (fin_bl I q dec_int)
    | str j => obtain ⟨t', rfl⟩ := ry; exact PySem.EqMixed.eq_int_str (fin_bl I q (by simp))
    | _ => exact absurd (show false = true from hs) Bool.false_ne_true
  | str i =>
    obtain ⟨t, rfl⟩ := rx
    cases y with
    | non => cases ry; exact PySem.EqNone.eq_str_none (fin_bl I q (by simp))
    | bl j => cases ry; exact PySem.EqMixed.eq_str_bool (fin_bl I q (by simp))
    | int j => obtain ⟨t', rfl⟩ := ry; exact PySem.EqMixed.eq_str_int (fin_bl I q (by simp))
    | str j => obtain ⟨t', rfl⟩ := ry; exact eq_str (fin_bl I q dec_str)
    | _ => exact absurd (show false = true from hs) Bool.false_ne_true
  | byt i =>
    obtain ⟨t, rfl⟩ := rx
    cases y with
    | byt j => obtain ⟨t', rfl⟩ := ry; exact PySem.W.eq_bytes (fin_bl I q dec_byt)
    | _ => exact absurd (show false = true from hs) Bool.false_ne_true
  | _ => cases y <;> exact absurd (show false = true from hs) Bool.false_ne_true
theorem op_ne : OpR X (compareOp .NotEq) rNe := by
  intro pins s σ H x y v u Q I rx ry h
  obtain ⟨hs, q⟩ := h
  cases x with
  | non =>
    cases rx
    cases y with
    | non => cases ry; exact PySem.EqNone.ne_none_none (fin_bl I q (by simp))
    | bl j => cases ry; exact PySem.EqNone.ne_none_bool (fin_bl I q (by simp))
    | int j => obtain ⟨t', rfl⟩ := ry; exact PySem.EqNone.ne_none_int (fin_bl I q (by simp))
    | str j => obtain ⟨t', rfl⟩ := ry; exact PySem.EqNone.ne_none_str (fin_bl I q (by simp))
    | _ => exact absurd (show false = true from hs) Bool.false_ne_true
  | bl i =>
    cases rx
    cases y with
    | non => cases ry; exact PySem.EqNone.ne_bool_none (fin_bl I q (by simp))
    | bl j => cases ry; exact ne_bool (fin_bl I q (congrArg not dec_bl))
    | str j => obtain ⟨t', rfl⟩ := ry; exact PySem.EqMixed.ne_bool_str (fin_bl I q (by simp))
    | _ => exact absurd (show false = true from hs) Bool.false_ne_true
  | int i =>
    obtain ⟨t, rfl⟩ := rx
    cases y with
    | non => cases ry; exact PySem.EqNone.ne_int_none (fin_bl I q (by simp))
    | int j => obtain ⟨t', rfl⟩ := ry; exact ne_int (fin_bl I q (congrArg not dec_int))
    | str j => obtain ⟨t', rfl⟩ := ry; exact PySem.EqMixed.ne_int_str (fin_bl I q (by simp))
    | _ => exact absurd (show false = true from hs) Bool.false_ne_true
  | str i =>
    obtain ⟨t, rfl⟩ := rx
    cases y with
    | non => cases ry; exact PySem.EqNone.ne_str_none (fin_bl I q (by simp))
    | bl j => cases ry; exact PySem.EqMixed.ne_str_bool (fin_bl I q (by simp))
    | int j => obtain ⟨t', rfl⟩ := ry; exact PySem.EqMixed.ne_str_int (fin_bl I q (by simp))
    | str j => obtain ⟨t', rfl⟩ := ry; exact ne_str (fin_bl I q (congrArg not dec_str))
    | _ => exact absurd (show false = true from hs) Bool.false_ne_true
  | byt i =>
    obtain ⟨t, rfl⟩ := rx
    cases y with
    | byt j => obtain ⟨t', rfl⟩ := ry; exact PySem.W.ne_bytes (fin_bl I q (congrArg not dec_byt))
    | _ => exact absurd (show false = true from hs) Bool.false_ne_true
  | _ => cases y <;> exact absurd (show false = true from hs) Bool.false_ne_true

theorem op_lt : OpR X (compareOp .Lt) (rI0 fun i j => .bl (decide (i < j))) := opB0 fun _ _ _ _ _ _ _ q => lt_int q
theorem op_gt : OpR X (compareOp .Gt) (rI0 fun i j => .bl (decide (j < i))) := opB0 fun _ _ _ _ _ _ _ q => gt_int q
theorem op_ge : OpR X (compareOp .GtE) (rI0 fun i j => .bl (decide (j ≤ i))) := opB0 fun _ _ _ _ _ _ _ q => ge_int q
theorem nomark (b : Expr) {op : CmpOp} (h : op ≠ .In := by decide) (h2 : op ≠ .NotIn := by decide) : behindInMarks op b = false := by
  have e1 : (op == CmpOp.In) = false := by cases op <;> first | rfl | exact absurd rfl h
  have e2 : (op == CmpOp.NotIn) = false := by cases op <;> first | rfl | exact absurd rfl h2
  cases b <;> simp [behindInMarks, e1, e2]
/-- a comparison as a value; hm: nomark b, or (for in, not in) by with_unfolding_all rfl -/
theorem pe_cmpR {op : CmpOp} {r : R2} (ho : OpR X (compareOp op) r) (ha : PE X a ta) (hb : PE X b tb) (hm : behindInMarks op b = false) : PE X (.Compare a [op] [b] pos) (tOp r ta tb) := by
  intro pins s σ H Q I h
  exact wpAny_Compare1 (binT ha hb I h fun v u s2 x y H2 I2 rx ry q => ho pins s2 σ H2 x y v u Q I2 rx ry q) hm
/-- a reading of a value as a test -/
def tTest (t : TE) : TT := fun σ H Q => t σ H fun x H' => ∃ k, x = .bl k ∧ Q k H'
theorem pt_cmpR {op : CmpOp} {r : R2} (ho : OpR X (compareOp op) r) (ha : PE X a ta) (hb : PE X b tb) (hm : behindInMarks op b = false) : PT X (.Compare a [op] [b] pos) (tTest (tOp r ta tb)) := by
  intro pins s σ H Q I h
  refine wpAny_isTrue_Compare1 (thn (ha pins s σ H _ I h) fun v s1 ⟨x, H1, I1, r1, q1⟩ => thn (hb pins s1 σ H1 _ I1 q1) fun u s2 ⟨y, H2, I2, r2, q2⟩ =>
    thn (ho pins s2 σ H2 x y v u _ I2 r1 r2 q2) fun c s3 ⟨z, H3, I3, r3, k, e, q3⟩ => ?_) hm
  subst e
  cases r3
  exact wpAny_truthy_bool ⟨H3, I3, q3⟩
/-! ### truth -/
theorem line63 : (sizeLine : Nat) < 2 ^ 63 := by rw [sizeLine_eq]; decide
/-! ### strs and bytes -/
/-! ### scalar builtins, by CallR -/
theorem vals1 {x : V} {us : List Value} (r : Vals [x] us) : ∃ u, us = [u] ∧ RelV x u := by
  cases r with
  | cons r1 r2 => cases r2; exact ⟨_, rfl, r1⟩
theorem vals2 {x y : V} {us : List Value} (r : Vals [x, y] us) : ∃ u w', us = [u, w'] ∧ RelV x u ∧ RelV y w' := by
  cases r with
  | cons r1 r2 =>
    cases r2 with
    | cons r3 r4 => cases r4; exact ⟨_, _, rfl, r1, r3⟩
theorem call_abs : CallR X (.builtin "abs") (fun xs H Q => ∃ i, xs = [.int i] ∧ Q (.int (if i < 0 then -i else i)) H) := by
  intro pins s σ H xs us Q I r h
  obtain ⟨i, rfl, q⟩ := h
  obtain ⟨u, rfl, t, rfl⟩ := vals1 r
  exact call_abs_int fun u tk => ⟨.int (if i < 0 then -i else i), H, I.tok _, ⟨_, rfl⟩, q⟩
theorem call_max2 (hc : X.calm = true) : CallR X (.builtin "max") (fun xs H Q => ∃ i j, xs = [.int i, .int j] ∧ Q (.int (if j > i then j else i)) H) := by
  intro pins s σ H xs us Q I r h
  obtain ⟨i, j, rfl, q⟩ := h
  obtain ⟨u, w', rfl, ⟨t, rfl⟩, ⟨t', rfl⟩⟩ := vals2 r
  refine max_two_ints (I.ok.hd hc) fun h' tk k => ⟨_, H, I.kept k, ?_, q⟩
  by_cases hj : j > i
  · rw [if_pos hj, if_pos hj]; exact ⟨_, rfl⟩
  · rw [if_neg hj, if_neg hj]; exact ⟨_, rfl⟩
theorem call_min2 (hc : X.calm = true) : CallR X (.builtin "min") (fun xs H Q => ∃ i j, xs = [.int i, .int j] ∧ Q (.int (if j < i then j else i)) H) := by
  intro pins s σ H xs us Q I r h
  obtain ⟨i, j, rfl, q⟩ := h
  obtain ⟨u, w', rfl, ⟨t, rfl⟩, ⟨t', rfl⟩⟩ := vals2 r
  refine min_two_ints (I.ok.hd hc) fun h' tk k => ⟨_, H, I.kept k, ?_, q⟩
  by_cases hj : j < i
  · rw [if_pos hj, if_pos hj]; exact ⟨_, rfl⟩
  · rw [if_neg hj, if_neg hj]; exact ⟨_, rfl⟩
theorem call_int1 : CallR X (.type "int") (fun xs H Q => (∃ i, xs = [.int i] ∧ Q (.int i) H) ∨ ∃ k, xs = [.bl k] ∧ Q (.int (if k then 1 else 0)) H) := by
  intro pins s σ H xs us Q I r h
  rcases h with ⟨i, rfl, q⟩ | ⟨k, rfl, q⟩
  · obtain ⟨u, rfl, t, rfl⟩ := vals1 r
    exact call_int_int ⟨.int i, H, I, ⟨_, rfl⟩, q⟩
  · obtain ⟨u, rfl, r1⟩ := vals1 r
    cases r1
    exact call_int_bool ⟨.int (if k then 1 else 0), H, I.tok _, ⟨_, rfl⟩, q⟩
end
end L2

namespace L2
open PySem PySem.Spec PyProof.Rows

/-! ### an instance, its attributes a map -/
structure ObjM (h : Heap) (x dx C : Addr) (mA : Str → Option Value) : Prop where
  obj : h.get? x = some (PySem.W.instObj C dx)
  ns : h.Ns1 dx mA
  ne : dx ≠ x

theorem lookIn_ns {h : Heap} {dx : Addr} {mA : Str → Option Value} (n : h.Ns1 dx mA) : ∃ od, h.get? dx = some od ∧ ∀ name, PySem.W.lookIn name od = some (mA name) := by
  obtain ⟨o, es, ep, ho, hd, hk, _, hm⟩ := n
  refine ⟨o, ho, fun name => ?_⟩
  have e := hm name
  unfold nsFind findBy at e
  rw [← Array.find?_toList] at e
  unfold PySem.W.lookIn
  rw [hd]
  dsimp only
  split
  · rename_i y q
    rw [q] at e
    exact congrArg some e
  · rename_i q
    rw [q] at e
    have a : es.toList.any (·.refKey) = false := by
      rw [List.any_eq_false]
      intro y hy
      obtain ⟨z, t, hkey⟩ := hk y (Array.mem_toList_iff.mp hy)
      simp [DictEntry.refKey, hkey]
    have a' : ¬ es.toList.any (·.refKey) = true := by rw [a]; exact Bool.false_ne_true
    rw [if_neg a']
    exact congrArg some e

theorem ObjM.look {h : Heap} {x dx C : Addr} {mA : Str → Option Value} (I : ObjM h x dx C mA) : ∃ od, PySem.W.InstAt h x (PySem.W.instObj C dx) C (some od) ∧ ∀ name, PySem.W.lookIn name od = some (mA name) :=
  let ⟨od, ho, hl⟩ := lookIn_ns I.ns
  ⟨od, ⟨I.obj, rfl, rfl, ho⟩, hl⟩

section
variable {prog : Program} {w : World} {A : Around} {E : Value → Shared → Prop} {s : Shared} {K : PySem.W.Frag} {x dx C f : Addr} {mA : Str → Option Value} {name : Str} {v : Value}

end

/-! ### the attributes as a list of pairs -/
theorem RelO.some_of {v : V} {o : Option Value} (r : RelO (some v) o) : ∃ u, o = some u ∧ RelV v u := by
  cases o with
  | none => exact (show False from r).elim
  | some u => exact ⟨u, rfl, r⟩
section
variable {P : Program} {w : World} {H H' : Hp} {h h' : Heap} {a C dx : Addr} {fs fs' : List (Str × V)}
theorem ins_get (hok : HOk P w H h) (e : H a = some (.ins C dx fs)) : ∃ mA, ObjM h a dx C mA ∧ (∀ f, RelO (fs.lookup f) (mA f)) ∧ PySem.Within mA (fs.map (·.1)) ∧ fs.length ≤ 1000 ∧ H dx = some (.own a) := by
  obtain ⟨d, z, ne, ob, mA, n, r, q⟩ := (show ObjOk P w H h a (.ins C dx fs) from hok a _ e)
  exact ⟨mA, ⟨ob, n, ne⟩, r, q, z, d⟩
end

/-! ### what of the text a class must have -/
structure Cls (K : PySem.W.Frag) (C : Addr) : Prop where
  pg : PySem.W.plainGet K C Str.empty = true
  hd : PySem.W.hasDictIn K C = true
  po : PySem.W.plainOver K C = true
  sa : PySem.W.findIn K (.ref C) "__setattr__" = some (some (.builtin "object.__setattr__"))
theorem Cls.get {K : PySem.W.Frag} {C : Addr} (c : Cls K C) (f : Str) : PySem.W.plainGet K C f = true := c.pg
section
variable {X : Cx} {pins : List (Addr × Obj)} {σ : St} {H : Hp} {s : Shared} {a C dx : Addr} {fs : List (Str × V)} {f : Str} {v : V} {A : Around} {E : Value → Shared → Prop}

end

/-! ### readings and rules -/
section
variable {X : Cx} {o e value : Expr} {f : Str} {pos pos' tpos : Pos} {ta tv : TE}
end

/-! ### isinstance -/
section
variable {X : Cx} {pins : List (Addr × Obj)} {σ : St} {H : Hp} {s : Shared} {A : Around} {E : Value → Shared → Prop} {Q : Value → Shared → Prop} {c : Value} {b : Bool}
/-- the type of a value, as the fragment's deciders take it; for an instance its class -/
inductive TyOf (K : PySem.W.Frag) (H : Hp) : V → Value → Prop where
  | non : TyOf K H .non (.type "NoneType")
  | bl (x : Bool) : TyOf K H (.bl x) (.type "bool")
  | int (i : Int) : TyOf K H (.int i) (.type "int")
  | str (x : Str) : TyOf K H (.str x) (.type "str")
  | flt (x : UInt64) : TyOf K H (.flt x) (.type "float")
  | lst {a : Addr} {xs : List V} (e : H a = some (.lst xs)) : TyOf K H (.ref a) (.type "list")
  | frz {a : Addr} {o : Obj} {xs : List V} (e : H a = some (.frz o (.lst xs))) : TyOf K H (.ref a) (.type "list")
  | tup {a : Addr} {xs : List V} (e : H a = some (.tup xs)) : TyOf K H (.ref a) (.type "tuple")
  | dK {a : Addr} {kvs : List (Key × V)} (e : H a = some (.dK kvs)) : TyOf K H (.ref a) (.type "dict")
  | dT {a : Addr} {kvs : List (List Key × V)} (e : H a = some (.dT kvs)) : TyOf K H (.ref a) (.type "dict")
  | ins {a C dx : Addr} {fs : List (Str × V)} (e : H a = some (.ins C dx fs)) (cl : Cls K C) (ha : PySem.W.findIn K (.ref C) "__class__" = some (some (.builtin "object.__class__")))
      (hn : PySem.W.specialIn K (.builtin "object.__class__") "__get__" = some (some (.builtin "getset_descriptor.__get__"))) (htk : PySem.W.takesIn K (.builtin "object.__class__") = some true)
      (hm : PySem.W.mroIn K C (.type "object") = some true) : TyOf K H (.ref a) (.ref C)
/-- isinstance(x, c) for one class c, a built-in or an own one: kitOne's answer -/
theorem isinst_ok {x : V} {u t : Value} (I : Inv X pins σ H s) (rx : RelV x u) (ty : TyOf X.K H x t) (e : PySem.W.kitOne X.K t c = some b) (h : ∀ tk, Q (.bool b) { s with toks := tk }) :
    wpAny (model X.prog X.w) A (call (.builtin "isinstance") [u, c]) Q E s := by
  cases ty with
  | non => cases (show u = Value.none from rx); exact PySem.W.kia_one PySem.W.kitx_none I.kIn True.intro e (fun z => nomatch z) h
  | bl y => cases (show u = Value.bool y from rx); exact PySem.W.kia_one PySem.W.kitx_bool I.kIn True.intro e (fun z => nomatch z) h
  | int i => obtain ⟨t, q⟩ := (show ∃ t, u = Value.int i t from rx); cases q; exact PySem.W.kia_one PySem.W.kitx_int I.kIn True.intro e (fun z => nomatch z) h
  | str y => obtain ⟨t, q⟩ := (show ∃ t, u = Value.str y t from rx); cases q; exact PySem.W.kia_one PySem.W.kitx_str I.kIn True.intro e (fun z => nomatch z) h
  | flt y => obtain ⟨t, q⟩ := (show ∃ t, u = Value.float y t from rx); cases q; exact PySem.W.kia_one PySem.W.kitx_float I.kIn True.intro e (fun z => nomatch z) h
  | @lst a xs ea =>
    cases (show u = Value.ref a from rx)
    obtain ⟨_, _, n, _, h1⟩ := (show ObjOk X.prog X.w H s.heap a (.lst xs) from I.hok a _ ea)
    exact PySem.W.kia_one PySem.W.kitx_list I.kIn ⟨_, h1, rfl⟩ e (fun z => nomatch z) h
  | @frz a ob xs ea =>
    cases (show u = Value.ref a from rx)
    obtain ⟨_, _, _, n, _, h1⟩ := (show ObjOk X.prog X.w H s.heap a (.frz ob (.lst xs)) from I.hok a _ ea)
    exact PySem.W.kia_one PySem.W.kitx_list I.kIn ⟨_, h1, rfl⟩ e (fun z => nomatch z) h
  | @tup a xs ea =>
    cases (show u = Value.ref a from rx)
    obtain ⟨_, _, _, p⟩ := (show ObjOk X.prog X.w H s.heap a (.tup xs) from I.hok a _ ea)
    obtain ⟨o, h1, h2, _⟩ := p
    exact PySem.W.kia_one PySem.W.kitx_tuple I.kIn ⟨o, h1, h2⟩ e (fun z => nomatch z) h
  | @dK a kvs ea =>
    cases (show u = Value.ref a from rx)
    obtain ⟨_, _, vs, _, p⟩ := (show ObjOk X.prog X.w H s.heap a (.dK kvs) from I.hok a _ ea)
    obtain ⟨o, es, ep, h1, h2, _⟩ := p
    exact PySem.W.kia_one PySem.W.kitx_dict I.kIn ⟨o, h1, h2.1⟩ e (fun z => nomatch z) h
  | @dT a kvs ea =>
    cases (show u = Value.ref a from rx)
    obtain ⟨_, _, xs, _, o, es, ep, h1, h2, _⟩ := (show ObjOk X.prog X.w H s.heap a (.dT kvs) from I.hok a _ ea)
    exact PySem.W.kia_one PySem.W.kitx_dict I.kIn ⟨o, h1, h2.1⟩ e (fun z => nomatch z) h
  | @ins a C dx fs ea cl ha hn htk hm =>
    cases (show u = Value.ref a from rx)
    obtain ⟨mA, O, _⟩ := ins_get I.hok ea
    obtain ⟨od, J, _⟩ := O.look
    exact PySem.W.kia_one (PySem.W.kitx_own (cl.get _) cl.hd ha hn htk hm) I.kIn J e (fun z => nomatch z) h
end
end L2

namespace L2
open PySem PySem.Spec PyProof.Rows

/-! ### room -/
structure Room (k : Nat) (A : Around) : Prop where
  hd : A.handled = none
  dp : A.depth + 3 * k + 5 < recursionLimit
  un : A.units + 16 * k + 200 < cLine
  gd : A.guards = some []
theorem Room.mono {j k : Nat} {A : Around} (r : Room k A) (h : j ≤ k) : Room j A := ⟨r.hd, by have := r.dp; omega, by have := r.un; omega, r.gd⟩
theorem Room.deeper {k : Nat} {A : Around} (r : Room (k + 1) A) (env : Env) : Room k (A.deeper env) :=
  ⟨r.hd, by have := r.dp; show A.depth + 1 + 3 * k + 5 < _; omega, by have := r.un; show A.units + 3 + 16 * k + 200 < _; omega, r.gd⟩
theorem Room.depth {k : Nat} {A : Around} (r : Room k A) : A.depth < recursionLimit := by have := r.dp; omega
theorem Room.units {k : Nat} {A : Around} (r : Room k A) : A.units + 64 < cLine := by have := r.un; omega
/-! ### argument lists and displays -/
def tNil : TA := fun _ H Q => Q [] H
def tCons (ta : TE) (tr : TA) : TA := fun σ H Q => ta σ H fun x H1 => tr σ H1 fun xs H2 => Q (x :: xs) H2
section
variable {X : Cx} {e : Expr} {es : List Expr} {te : TE} {t : TA} {pos : Pos}
theorem pa_nil : PA X [] tNil := fun _ _ _ _ H Q I h => Calls.spliced_nil ⟨[], H, I, .nil, h⟩
theorem pa_cons (ha : PE X e te) (hr : PA X es t) (hs : starEach (e :: es) X.env = (false, eval e X.env) :: starEach es X.env := by rfl) : PA X (e :: es) (tCons te t) := by
  intro pos pins s σ H Q I h
  rw [hs]
  show wpAny _ _ (spliced ((false, eval e X.env) :: backTo pos (starEach es X.env))) _ _ s
  refine Calls.spliced_cons (thn (ha pins s σ H _ I h) fun u s1 ⟨x, H1, I1, r1, q1⟩ => ?_)
  exact thn (hr pos pins s1 σ H1 _ I1 q1) fun us s2 ⟨xs, H2, I2, r2, q2⟩ => ⟨x :: xs, H2, I2, .cons r1 r2, q2⟩

/-- a tuple, a list of written items -/
def tTup (t : TA) : TE := fun σ H Q => t σ H fun xs H1 => xs.length ≤ sizeLine ∧ ∀ p, H1 p = none → Q (.ref p) (upd H1 p (.tup xs))
def tLst (t : TA) : TE := fun σ H Q => t σ H fun xs H1 => xs.length ≤ sizeLine ∧ ∀ p, H1 p = none → Q (.ref p) (upd H1 p (.lst xs))
theorem pe_tup {x1} (h : PA X es t) : PE X (.Tuple es x1 pos) (tTup t) := by
  intro pins s σ H Q I hq
  refine wpAny_Tuple_spliced (thn (h pos pins s σ H _ I hq) fun us s1 ⟨xs, H1, I1, r, z, q⟩ => ⟨by rw [← r.length]; exact z, ?_⟩)
  have hf : H1 s1.heap.objs.size = none := I1.hok.fresh (Nat.le_refl _)
  refine ⟨.ref s1.heap.objs.size, upd H1 s1.heap.objs.size (.tup xs), I1.laid (t' := s1.toks) (fun b u e => Heap.get?_push_of_some _ e) (Nat.le_refl _) ?_, rfl, q _ hf⟩
  exact ⟨z, us, r, ⟨_, Heap.get?_push_size _ rfl, rfl, _, rfl, rfl⟩⟩
theorem pe_lst (h : PA X es t) : PE X (.List es pos) (tLst t) := by
  intro pins s σ H Q I hq
  refine wpAny_List_spliced (thn (h pos pins s σ H _ I hq) fun us s1 ⟨xs, H1, I1, r, z, q⟩ => ⟨by rw [← r.length]; exact z, ?_⟩)
  have hf : H1 s1.heap.objs.size = none := I1.hok.fresh (Nat.le_refl _)
  refine ⟨.ref s1.heap.objs.size, upd H1 s1.heap.objs.size (.lst xs), I1.laid (t' := s1.toks) (fun b u e => Heap.get?_push_of_some _ e) (Nat.le_refl _) ?_, rfl, q _ hf⟩
  exact ⟨z, us, 0, r, Heap.get?_push_size _ rfl⟩
end

/-! ### what a def promises -/
/-- a def's promise: the bound arguments in the parameters' order, the heap, the wanted end, the wanted exception -/
abbrev Sp := List V → Hp → VK → XK → Prop
/-- how an exception lies behind a call (file 08 gives it): the callers' frames, abstract heap and state ahead of the call, the wish, the exception, the state -/
abbrev CXT := List Env → Hp → Shared → XK → Value → Shared → Prop

/-- the state at a call -/
structure Env0 (P : Program) (w : World) (K : PySem.W.Frag) (mg : Str → Option Value) (base : Heap) (A : Around) (outer : List Env) (s : Shared) (H : Hp) : Prop where
  frames : A.frames = some outer
  mod : Mod K mg base
  bs : ∀ b o, base.get? b = some o → s.heap.get? b = some o ∧ H b = none
  bsz : base.objs.size ≤ s.heap.objs.size
  funs : s.heap.FunFrames base outer
  frf : ∀ b ∈ frs outer, H b = none
  hok : HOk P w H s.heap
  bare : AllBare s.gens
/-- a call's end -/
def CE (outer : List Env) (P : Program) (w : World) (H : Hp) (s : Shared) (Q : VK) (u : Value) (s' : Shared) : Prop :=
  ∃ v H', s'.os = s.os ∧ AllBare s'.gens ∧ Un (frs outer) [] H H' s.heap s'.heap ∧ HOk P w H' s'.heap ∧ RelV v u ∧ Q v H'
def CR (CX : CXT) (outer : List Env) (P : Program) (w : World) (H : Hp) (s : Shared) (Q : VK) (E : XK) (r : Result) (s' : Shared) : Prop :=
  match r with
  | .ok (.ret u) => CE outer P w H s Q u s'
  | .ok _ => False
  | .error e => CX outer H s E e s'
structure FnOk (P : Program) (w : World) (K : PySem.W.Frag) (mg : Str → Option Value) (base : Heap) (CX : CXT) (k : Nat) (f : Addr) (fd : FuncData) (ps : List Str) (sp : Sp) : Prop where
  len : ∀ vs H Q E, sp vs H Q E → vs.length = ps.length
  run : ∀ (A : Around) (outer : List Env) (s : Shared) (H : Hp) (args : Args) (us : List Value) (vs : List V) (Q : VK) (E : XK), Room k A → Env0 P w K mg base A outer s H → BindsTo s fd args (ps.zip us) → Vals vs us → sp vs H Q E →
    codeAny (model P w) A (.call (.ref f) args) (CR CX outer P w H s Q E) s
section
variable {X : Cx} {pins : List (Addr × Obj)} {σ : St} {H : Hp} {s s' : Shared}
/-- from a body: what a callee wants -/
theorem Inv.env0 (I : Inv X pins σ H s) : Env0 X.prog X.w X.K X.mg X.base X.A X.stack s H :=
  ⟨I.ok.frames, I.ok.mod, I.bs, Nat.le_trans I.ok.bsz I.sz, I.stack, I.stkFree, I.hok, I.bare⟩
/-- behind a call -/
theorem Inv.after {Q : VK} {u : Value} (I : Inv X pins σ H s) (h : CE X.stack X.prog X.w H s Q u s') : EP X pins σ Q u s' := by
  obtain ⟨v, H', os, bare, un, hok, r, q⟩ := h
  obtain ⟨hh, g, d, t, os'⟩ := s'
  obtain rfl : os' = s.os := os
  exact ⟨v, H', I.call (h' := hh) (g' := g) (d' := d) (t' := t) (ch := []) un hok bare (fun b z => absurd z (by simp)), r, q⟩
end

/-! ### calls -/
/-- f(..): the written arguments, then the defaults dvs; E: what is wanted of an exception -/
def tCall (sp : Sp) (dvs : List V) (E : XK) (t : TA) : TE := fun σ H Q => t σ H fun vs H1 => sp (vs ++ dvs) H1 Q E
/-- how the parameters are bound: us the positional arguments, kw the keywords' values by name, ds the defaults that fill up -/
def Binds (K : PySem.W.Frag) (fd : FuncData) (ps : List Str) (ds : List Value) : Prop :=
  ∀ (s : Shared) (us : List Value), K.In s.heap → (us ++ ds).length = ps.length → BindsTo s fd ⟨us, []⟩ (ps.zip (us ++ ds))
/-- every parameter is given -/
theorem Binds.all {K : PySem.W.Frag} {fd : FuncData} {ps : List Str} (h : ∀ us : List Value, us.length = ps.length → bindArgs fd ⟨us, []⟩ = pure (ps.zip us)) : Binds K fd ps [] := fun s us _ hl => by
  rw [List.append_nil] at hl ⊢
  exact .of_eq (h us hl)

/-- an exception of a callee reaches what this body wants of exceptions -/
def Passes (CX : CXT) (X : Cx) (E : XK) : Prop := ∀ (pins : List (Addr × Obj)) (σ : St) (H : Hp) (s : Shared) (e : Value) (s' : Shared), Inv X pins σ H s → CX X.stack H s E e s' → X.xe e s'

section
variable {X : Cx} {CX : CXT} {k : Nat} {f C : Addr} {fd : FuncData} {ps : List Str} {sp : Sp} {dvs : List V} {ds : List Value} {E : XK} {x m : Str} {p pos apos : Pos} {e o : Expr} {es : List Expr} {ta : TE} {t : TA}

/-- the callee runs -/
theorem run_fn {pins : List (Addr × Obj)} {σ : St} {H : Hp} {s : Shared} {Q : VK} {us : List Value} {vs : List V} (F : FnOk X.prog X.w X.K X.mg X.base CX k f fd ps sp) (hr : Room k X.A) (hb : Binds X.K fd ps ds) (hd : Vals dvs ds) (hx : Passes CX X E)
    (I : Inv X pins σ H s) (r : Vals vs us) (h : sp (vs ++ dvs) H Q E) : wpAny (model X.prog X.w) X.A (call (.ref f) us) (EP X pins σ Q) X.xe s := by
  have r2 : Vals (vs ++ dvs) (us ++ ds) := r.append hd
  have hl : (us ++ ds).length = ps.length := by rw [← r2.length]; exact F.len _ _ _ _ h
  refine wpAny_call (codeAny_mono (F.run X.A X.stack s H ⟨us, []⟩ (us ++ ds) (vs ++ dvs) Q E hr I.env0 (hb s us I.kIn hl) r2 h) fun r s' hq => ?_)
  cases r with
  | error e => exact hx pins σ H s e s' I hq
  | ok fl =>
    cases fl with
    | ret u => exact I.after hq
    | next => exact False.elim hq
    | brk => exact False.elim hq
    | cont => exact False.elim hq

theorem pe_call (F : FnOk X.prog X.w X.K X.mg X.base CX k f fd ps sp) (hr : Room k X.A) (hg : Gl X x) (hm : X.mg x = some (.ref f)) (hk : PySem.W.keepIn X.K (.ref f) = true) (hb : Binds X.K fd ps ds) (hd : Vals dvs ds) (hx : Passes CX X E)
    (ha : PA X (e :: es) t) (hdb : (x == ("__debug__" : Str)) = false := by decide) (he : starEach (e :: es) X.env = (false, eval e X.env) :: starEach es X.env := by rfl) (hpl : (backTo pos (starEach es X.env)).any (·.1) = false := by rfl) :
    PE X (.Call (.Name x p) (e :: es) [] pos) (tCall sp dvs E t) := by
  intro pins s σ H Q I h
  refine wpAny_Call_Name_kw (ld_glob I hg hm ?_ hdb)
  refine PySem.W.callWith_K (h₀ := X.base) I.ok.mod.kin hk (thn (ha pos pins s σ H _ I h) fun us s1 ⟨vs, H1, I1, r, q⟩ => ⟨I1.kIn, ?_⟩) he hpl
  exact run_fn F hr hb hd hx I1 r q
end

/-! ### keywords -/
section
variable {X : Cx} {CX : CXT} {k : Nat} {f C : Addr} {fd : FuncData} {ps ks : List Str} {sp : Sp} {E : XK} {x m : Str} {p pos apos kpos : Pos} {e o : Expr} {es : List Expr} {kws : List Keyword} {te ta : TE} {t tk : TA} {nm : Option Str}
variable {g : List Value → List Value → List Value} {gV : List V → List V → List V}
end

/-! ### a def's body keeps its promise -/
/-- names: the parameters first -/
structure FnScope (N P : List Str) (sc : Scope) : Prop where
  kind : sc.kind = .function
  co : sc.isCoroutine = false
  gen : sc.isGenerator = false
  nd : N.Nodup
  pre : N.take P.length = P
  par : ∀ x ∈ P, sc.names.lookup x = some .local ∨ sc.names.lookup x = some .cell
  nofree : ∀ y ∈ sc.names, y.2 ≠ .free

theorem bindL_out {kindOf : Str → Option NameKind} {x : Str} : ∀ {binds : List (Str × Value)} {m : Str → Option Value}, (∀ v, (x, v) ∉ binds) → bindL kindOf binds m x = m x
  | [], _, _ => rfl
  | (n, v) :: r, m, h => by
    unfold bindL
    rw [bindL_out fun w hw => h w (List.mem_cons_of_mem _ hw)]
    split
    · have : x ≠ n := by rintro rfl; exact h v List.mem_cons_self
      simp [this]
    · rfl
theorem bindC_out {kindOf : Str → Option NameKind} {x : Str} : ∀ {binds : List (Str × Value)} {m : Str → Option Value}, (∀ v, (x, v) ∉ binds) → bindC kindOf binds m x = m x
  | [], _, _ => rfl
  | (n, v) :: r, m, h => by
    unfold bindC
    rw [bindC_out fun w hw => h w (List.mem_cons_of_mem _ hw)]
    split
    · rfl
    · have : x ≠ n := by rintro rfl; exact h v List.mem_cons_self
      simp [this]
theorem bindL_get {kindOf : Str → Option NameKind} {x : Str} {v : Value} : ∀ {P : List Str} {vs : List Value} {i : Nat} {m : Str → Option Value}, P.Nodup → P[i]? = some x → vs[i]? = some v → kindOf x = some .local →
    bindL kindOf (P.zip vs) m x = some v
  | [], _, _, _, _, h, _, _ => by simp at h
  | _ :: _, [], _, _, _, _, h, _ => by simp at h
  | p :: P, w :: vs, 0, m, nd, h1, h2, hk => by
    simp at h1 h2; subst h1; subst h2
    show bindL kindOf ((p, w) :: P.zip vs) m p = _
    unfold bindL
    rw [bindL_out fun v hv => (List.nodup_cons.mp nd).1 (List.of_mem_zip hv).1, if_pos hk]
    simp
  | p :: P, w :: vs, i + 1, m, nd, h1, h2, hk => by
    show bindL kindOf ((p, w) :: P.zip vs) m x = _
    unfold bindL
    exact bindL_get (i := i) (List.nodup_cons.mp nd).2 (by simpa using h1) (by simpa using h2) hk
theorem bindC_get {kindOf : Str → Option NameKind} {x : Str} {v : Value} : ∀ {P : List Str} {vs : List Value} {i : Nat} {m : Str → Option Value}, P.Nodup → P[i]? = some x → vs[i]? = some v → kindOf x ≠ some .local →
    bindC kindOf (P.zip vs) m x = some v
  | [], _, _, _, _, h, _, _ => by simp at h
  | _ :: _, [], _, _, _, _, h, _ => by simp at h
  | p :: P, w :: vs, 0, m, nd, h1, h2, hk => by
    simp at h1 h2; subst h1; subst h2
    show bindC kindOf ((p, w) :: P.zip vs) m p = _
    unfold bindC
    rw [bindC_out fun v hv => (List.nodup_cons.mp nd).1 (List.of_mem_zip hv).1, if_neg hk]
    simp
  | p :: P, w :: vs, i + 1, m, nd, h1, h2, hk => by
    show bindC kindOf ((p, w) :: P.zip vs) m x = _
    unfold bindC
    exact bindC_get (i := i) (List.nodup_cons.mp nd).2 (by simpa using h1) (by simpa using h2) hk

/-- the names' values at the entry -/
def start (N : List Str) (vs : List V) : St := vs.map some ++ List.replicate (N.length - vs.length) none

/-- the context of a def's body, at its entry; an exception leaves the frame, then lies as CX says -/
def cxOf (CX : CXT) (P : Program) (w : World) (K : PySem.W.Frag) (mg : Str → Option Value) (base : Heap) (N : List Str) (qual : Str) (scope : Scope) (f : Addr) (cd : Value) (A : Around) (outer : List Env) (s : Shared) (H : Hp) (E : XK) : Cx where
  prog := P
  w := w
  K := K
  mg := mg
  base := base
  A := A.deeper (envOfC qual scope s.heap.objs.size f cd)
  N := N
  s₀ := s
  H₀ := H
  env := envOfC qual scope s.heap.objs.size f cd
  outer := outer
  stack := envOfC qual scope s.heap.objs.size f cd :: outer
  ex := []
  calm := true
  fn := fun _ => true
  pn := []
  xe := fun e s' => wpAny (model P w) (A.deeper (envOfC qual scope s.heap.objs.size f cd)) (leaving (envOfC qual scope s.heap.objs.size f cd) e) (fun _ s'' => CX outer H s E e s'') (fun e' s'' => CX outer H s E e' s'') s'

theorem cell_has {sc : Scope} {n : Nat} {x : Str} (h : sc.names.lookup x = some .cell) : ∃ c, (cellsFrom n sc.names []).lookup x = some c := by
  have q := PySem.W.cellsFrom_some sc.names n [] (.inl h)
  exact Option.isSome_iff_exists.mp q

theorem inv_start {CX : CXT} {P : Program} {w : World} {K : PySem.W.Frag} {mg : Str → Option Value} {base : Heap} {N ps : List Str} {qual : Str} {scope : Scope} {f : Addr} {cd : Value} {A : Around} {outer : List Env} {s s1 : Shared} {H : Hp} {E : XK} {us : List Value} {vs : List V}
    (S : FnScope N ps scope) (hd : A.handled = none) (e0 : Env0 P w K mg base A outer s H) (hl : vs.length = ps.length) (r : Vals vs us)
    (x : InCallC s s.heap.objs.size (bindL (envOfC qual scope s.heap.objs.size f cd).kindOf (ps.zip us) fun _ => none) (cellsFrom (s.heap.objs.size + 1) scope.names []) (bindC (envOfC qual scope s.heap.objs.size f cd).kindOf (ps.zip us) fun _ => none) s1) :
    Inv (cxOf CX P w K mg base N qual scope f cd A outer s H E) [] (start N vs) H s1 := by
  have hpl : ps.length ≤ N.length := by have := congrArg List.length S.pre; rw [List.length_take] at this; omega
  obtain ⟨h1, tk, rfl, hk⟩ := x.done
  have noA : ∀ b : Addr, b ∉ (cxOf CX P w K mg base N qual scope f cd A outer s H E).ex := fun b z => absurd (show b ∈ ([] : List Addr) from z) (by simp)
  refine ⟨⟨e0.mod, S.kind, rfl, rfl, Nat.le_refl _, fun y z c h1 h2 => ?_, fun y hy => ?_, fun y c _ h => ?_, fun _ => hd, Around.frames_deeper e0.frames, .inr ⟨rfl, rfl⟩, fun b z => absurd z (noA b), e0.bs, e0.bsz, fun b _ _ => noA b, fun b z => absurd z (noA b), e0.funs, e0.frf⟩,
    rfl, e0.bare, Un.kept hk, ⟨_, x.toInCall.ns, fun i y v h1 h2 h3 => ?_⟩, fun y c h => ⟨_, x.cell y c h⟩, e0.hok.fresh (Nat.le_refl _), fun y c h => ?_, fun p hp => absurd (show p ∈ ([] : List (Addr × Obj)) from hp) (by simp), e0.hok.kept hk, ?_⟩
  · exact name_of_addr x.apart (PySem.mem_of_lookup h1) (PySem.mem_of_lookup h2)
  · have hy : scope.names.lookup y = some .cell ∨ scope.names.lookup y = some .free := hy
    rcases hy with hy | hy
    · exact cell_has hy
    · exact absurd rfl (S.nofree _ (PySem.mem_of_lookup hy))
  · exact Nat.le_of_lt (x.above y c (PySem.mem_of_lookup h))
  · have hi : i < vs.length := by
      unfold start at h2
      by_cases hi : i < vs.length
      · exact hi
      · rw [List.getElem?_append_right (by simpa using hi)] at h2
        rw [List.getElem?_replicate] at h2
        split at h2 <;> cases h2
    have ha : vs[i]? = some v := by
      unfold start at h2
      rw [List.getElem?_append_left (by simpa using hi), List.getElem?_map] at h2
      cases e : vs[i]? with
      | none => rw [e] at h2; cases h2
      | some a => rw [e] at h2; cases h2; rfl
    obtain ⟨u, hu, rv⟩ := r.get ha
    have hp : ps[i]? = some y := by
      rw [← S.pre, List.getElem?_take_of_lt (by omega)]; exact h1
    have ndP : ps.Nodup := by rw [← S.pre]; exact S.nd.sublist (List.take_sublist _ _)
    refine ⟨u, rv, ?_⟩
    rcases S.par y (List.mem_of_getElem? hp) with k | k
    · exact .inl ⟨k, bindL_get ndP hp hu k⟩
    · obtain ⟨c, e⟩ := cell_has (n := s.heap.objs.size + 1) k
      refine .inr ⟨.inl k, c, e, ?_⟩
      have q := x.cell y c e
      rw [bindC_get ndP hp hu (by show scope.names.lookup y ≠ _; rw [k]; decide)] at q
      exact q
  · exact e0.hok.fresh (Nat.le_of_lt (x.above y c (PySem.mem_of_lookup h)))
  · unfold start
    show _ = N.length
    rw [List.length_append, List.length_map, List.length_replicate]
    omega

/-- THE RULE: a def (or a method) of the text, by its body. The body's reading t is chosen for each entry; it is run at the parameters' values -/
theorem fn_of {CX : CXT} {P : Program} {w : World} {K : PySem.W.Frag} {mg : Str → Option Value} {base : Heap} {k : Nat} {f : Addr} {name qual : Str} {params : Arguments} {body : List Stmt} {scope : Scope} {dV kV doc pm cdv ct oc : Value} {an od : Option Addr}
    {osl : Array (Option Value)} {N ps : List Str} {sp : Sp} (lk : K.lookup f = some ⟨oc, od, .func (PySem.W.fnOf name qual params body scope dV kV doc pm an cdv ct), osl⟩) (hcd : PySem.W.codeIn K cdv qual = true) (S : FnScope N ps scope)
    (len : ∀ vs H Q E, sp vs H Q E → vs.length = ps.length)
    (hbody : ∀ (A : Around) (outer : List Env) (s : Shared) (H : Hp) (vs : List V) (Q : VK) (E : XK), Room k (A.deeper (envOfC qual scope s.heap.objs.size f cdv)) → sp vs H Q E →
      ∃ t, PSs (cxOf CX P w K mg base N qual scope f cdv A outer s H E) body t ∧ t { nx := fun _ H' => Q .non H', rt := Q } (start N vs) H) :
    FnOk P w K mg base CX (k + 1) f (PySem.W.fnOf name qual params body scope dV kV doc pm an cdv ct) ps sp := by
  refine ⟨len, fun A outer s H args us vs Q E hr e0 hb r hsp => ?_⟩
  have hl := len _ _ _ _ hsp
  have KX : K.In s.heap := e0.mod.kin.keeps fun b o e => (e0.bs b o e).1
  have lim : s.heap.NoLimit := e0.mod.nolimit.keeps fun b o e => (e0.bs b o e).1
  have hkind : ∀ y ∈ ps.zip us, scope.names.lookup y.1 = some .local ∨ (scope.names.lookup y.1 = some .cell ∧ ((cellsFrom (s.heap.objs.size + 1) scope.names []).lookup y.1).isSome = true) := fun ⟨n, v⟩ hy => by
    rcases S.par n (List.of_mem_zip hy).1 with q | q
    · exact .inl q
    · exact .inr ⟨q, PySem.W.cellsFrom_some _ _ _ (.inl q)⟩
  refine codeAny_call_function hr.depth (KX _ _ lk) rfl S.co S.gen rfl (PySem.W.codeRec_of KX hcd) (hb _ _ _ _ ?_)
  refine wpAny_newFunctionEnv_cells S.kind hkind fun env he s1 x => ?_
  subst he
  refine ⟨lim.keeps x.toInCall.keep, codeAny_func ?_⟩
  obtain ⟨t, ht, hq⟩ := hbody A outer s H vs Q E (hr.deeper _) hsp
  have I : Inv (cxOf CX P w K mg base N qual scope f cdv A outer s H E) [] (start N vs) H s1 := inv_start S hr.hd e0 hl r x
  refine wpAny_mono (ht [] s1 (start N vs) H _ I hq) (fun fl s' hs => ?_) fun e s' hs => hs
  have fin : ∀ {σ' : St} {H' : Hp} {v : V} {u : Value}, Inv (cxOf CX P w K mg base N qual scope f cdv A outer s H E) [] σ' H' s' → RelV v u → Q v H' → CE outer P w H s Q u s' :=
    fun {σ' H' v u} J rv q => ⟨v, H', J.os, J.bare, J.base, J.hok, rv, q⟩
  cases fl with
  | ret u =>
    obtain ⟨v, σ', H', J, rv, q⟩ := hs
    exact fin J rv q
  | next =>
    obtain ⟨σ', H', J, q⟩ := hs
    exact fin (v := V.non) (u := Value.none) J rfl q
  | brk =>
    obtain ⟨_, _, _, q⟩ := hs
    exact False.elim q
  | cont =>
    obtain ⟨_, _, _, q⟩ := hs
    exact False.elim q
end L2

namespace L2
open PySem PySem.Spec PyProof.Rows
section
variable {X : Cx} {x : Str} {p pos : Pos} {e : Expr} {es : List Expr} {t : TA} {id T : String} {r : List V → Hp → VK → Prop}

def tCB (r : List V → Hp → VK → Prop) (t : TA) : TE := fun σ H Q => t σ H fun vs H1 => r vs H1 Q
/-- f(e, ..), f a built-in function -/
theorem pe_callB (hc : CallR X (.builtin id) r) (hg : Gl X x) (hm : X.mg x = none) (hv : bootBuiltins x = some (.builtin id)) (ha : PA X (e :: es) t) (hn : x ≠ "__name__" := by decide) (hdb : (x == ("__debug__" : Str)) = false := by decide)
    (he : starEach (e :: es) X.env = (false, eval e X.env) :: starEach es X.env := by rfl) (hpl : (backTo pos (starEach es X.env)).any (·.1) = false := by rfl) : PE X (.Call (.Name x p) (e :: es) [] pos) (tCB r t) := by
  intro pins s σ H Q I h
  refine wpAny_Call_Name_kw (ld_blt I hg hm hv ?_ hn hdb)
  exact PyProof.Rows.callWith_builtin1 (thn (ha pos pins s σ H _ I h) fun us s1 ⟨vs, H1, I1, r1, q1⟩ => hc pins s1 σ H1 vs us Q I1 r1 q1) he hpl
/-- T(e, ..), T a built-in type -/
theorem pe_callTy (hc : CallR X (.type T) r) (hg : Gl X x) (hm : X.mg x = none) (hv : bootBuiltins x = some (.type T)) (ha : PA X (e :: es) t) (hn : x ≠ "__name__" := by decide) (hdb : (x == ("__debug__" : Str)) = false := by decide)
    (he : starEach (e :: es) X.env = (false, eval e X.env) :: starEach es X.env := by rfl) (hpl : (backTo pos (starEach es X.env)).any (·.1) = false := by rfl) : PE X (.Call (.Name x p) (e :: es) [] pos) (tCB r t) := by
  intro pins s σ H Q I h
  refine wpAny_Call_Name_kw (ld_blt I hg hm hv ?_ hn hdb)
  exact PyProof.Rows.callWith_type1 (thn (ha pos pins s σ H _ I h) fun us s1 ⟨vs, H1, I1, r1, q1⟩ => hc pins s1 σ H1 vs us Q I1 r1 q1) he hpl
end
end L2

namespace L2
open PySem PySem.Spec PyProof.Rows

/-! ### lists of pairs as tables -/
section
variable {κ : Type} [DecidableEq κ]
def valV (kvs : List (κ × V)) (k : κ) : Option V := (kvs.find? fun kv => decide (kv.1 = k)).map (·.2)
/-- in its place, or at the end -/
def putK (kvs : List (κ × V)) (k : κ) (v : V) : List (κ × V) :=
  if (kvs.any fun kv => decide (kv.1 = k)) = true then kvs.map (fun kv => if kv.1 = k then (kv.1, v) else kv) else kvs ++ [(k, v)]
theorem valV_nil {k : κ} : valV ([] : List (κ × V)) k = none := rfl
theorem valV_pos {p : κ × V} {r : List (κ × V)} {k : κ} (e : p.1 = k) : valV (p :: r) k = some p.2 := by simp [valV, List.find?_cons, e]
theorem valV_neg {p : κ × V} {r : List (κ × V)} {k : κ} (e : ¬ p.1 = k) : valV (p :: r) k = valV r k := by simp [valV, List.find?_cons, e]
theorem valV_any (k : κ) : ∀ kvs : List (κ × V), (kvs.any fun kv => decide (kv.1 = k)) = (valV kvs k).isSome
  | [] => rfl
  | p :: r => by
    rw [List.any_cons]
    by_cases e : p.1 = k
    · simp only [valV_pos e, decide_eq_true e, Bool.true_or, Option.isSome_some]
    · rw [valV_neg e, decide_eq_false e, Bool.false_or]; exact valV_any k r
theorem valV_map (k j : κ) (y : V) : ∀ kvs : List (κ × V), valV (kvs.map fun kv => if kv.1 = k then (kv.1, y) else kv) j = (valV kvs j).map fun x => if j = k then y else x
  | [] => rfl
  | p :: r => by
    have ih := valV_map k j y r
    rw [List.map_cons]
    by_cases h : p.1 = k
    · rw [if_pos h]
      by_cases e : p.1 = j
      · rw [valV_pos (p := (p.1, y)) e, valV_pos e, Option.map_some, if_pos (e.symm.trans h)]
      · rw [valV_neg (p := (p.1, y)) e, valV_neg e, ih]
    · rw [if_neg h]
      by_cases e : p.1 = j
      · rw [valV_pos (p := p) e, valV_pos e, Option.map_some, if_neg (fun z => h (e.trans z))]
      · rw [valV_neg (p := p) e, valV_neg e, ih]
theorem valV_snoc (k j : κ) (y : V) : ∀ kvs : List (κ × V), valV kvs k = none → valV (kvs ++ [(k, y)]) j = if j = k then some y else valV kvs j
  | [], _ => by
    by_cases e : k = j
    · rw [if_pos e.symm]; exact valV_pos (p := (k, y)) e
    · rw [if_neg (fun z => e z.symm)]; exact valV_neg (p := (k, y)) e
  | p :: r, hn => by
    rw [List.cons_append]
    have hk : ¬ p.1 = k := fun z => by rw [valV_pos z] at hn; cases hn
    rw [valV_neg hk] at hn
    have ih := valV_snoc k j y r hn
    by_cases e : p.1 = j
    · rw [valV_pos e, valV_pos e, if_neg (fun z => hk (e.trans z))]
    · rw [valV_neg e, valV_neg e, ih]
theorem valV_put (kvs : List (κ × V)) (k j : κ) (y : V) : valV (putK kvs k y) j = if j = k then some y else valV kvs j := by
  unfold putK
  by_cases a : (kvs.any fun kv => decide (kv.1 = k)) = true
  · rw [if_pos a, valV_map]
    rw [valV_any] at a
    by_cases e : j = k
    · obtain ⟨x, hx⟩ := Option.isSome_iff_exists.mp a
      rw [if_pos e, e, hx, Option.map_some, if_pos rfl]
    · rw [if_neg e]
      cases valV kvs j with
      | none => rfl
      | some x => rw [Option.map_some, if_neg e]
  · rw [if_neg a]
    refine valV_snoc k j y kvs ?_
    rw [valV_any] at a
    cases q : valV kvs k with
    | none => rfl
    | some x => rw [q] at a; exact (a rfl).elim
theorem length_putK (kvs : List (κ × V)) (k : κ) (v : V) : (putK kvs k v).length ≤ kvs.length + 1 := by
  unfold putK
  split
  · rw [List.length_map]; omega
  · rw [List.length_append, List.length_cons, List.length_nil]; omega
theorem putK_new {kvs : List (κ × V)} {k : κ} (v : V) (h : valV kvs k = none) : putK kvs k v = kvs ++ [(k, v)] := by
  unfold putK
  rw [valV_any, h]
  exact if_neg (by decide)

theorem RelO.isSome_eq {o : Option V} {u : Option Value} (r : RelO o u) : o.isSome = u.isSome := by
  cases o with
  | none => cases u with
    | none => rfl
    | some _ => exact (show False from r).elim
  | some _ => cases u with
    | none => exact (show False from r).elim
    | some _ => rfl
theorem RelO.getD {o : Option V} {u : Option Value} {d : V} {d' : Value} (r : RelO o u) (rd : RelV d d') : RelV (o.getD d) (u.getD d') := by
  cases o with
  | none => cases u with
    | none => exact rd
    | some _ => exact (show False from r).elim
  | some _ => cases u with
    | none => exact (show False from r).elim
    | some _ => exact r

/-- raw tables of the same keys -/
theorem KV.val {kvs : List (κ × V)} {vs : List (κ × Value)} (r : KV kvs vs) (k : κ) : RelO (valV kvs k) (valueAt vs k) := by
  unfold KV at r
  induction r with
  | nil => exact True.intro
  | @cons p q ps qs h t ih =>
    obtain ⟨h1, h2⟩ := h
    by_cases e : p.1 = k
    · have e' : q.1 = k := h1.symm.trans e
      have b : valueAt (q :: qs) k = some q.2 := by simp [valueAt, List.find?_cons, e']
      rw [valV_pos e, b]; exact h2
    · have e' : ¬ q.1 = k := fun z => e (h1.trans z)
      have b : valueAt (q :: qs) k = valueAt qs k := by simp [valueAt, List.find?_cons, e']
      rw [valV_neg e, b]; exact ih
theorem KV.any {kvs : List (κ × V)} {vs : List (κ × Value)} (r : KV kvs vs) (k : κ) : (kvs.any fun kv => decide (kv.1 = k)) = vs.any fun kv => decide (kv.1 = k) := by
  unfold KV at r
  induction r with
  | nil => rfl
  | cons h t ih => rw [List.any_cons, List.any_cons, ih, h.1]
theorem KV.repl {kvs : List (κ × V)} {vs : List (κ × Value)} (r : KV kvs vs) (k : κ) {y : V} {u : Value} (ry : RelV y u) :
    KV (kvs.map fun kv => if kv.1 = k then (kv.1, y) else kv) (vs.map fun kv => if kv.1 = k then (kv.1, u) else kv) := by
  unfold KV at r ⊢
  induction r with
  | nil => exact .nil
  | @cons p q ps qs h t ih =>
    rw [List.map_cons, List.map_cons]
    refine .cons ?_ ih
    obtain ⟨h1, h2⟩ := h
    by_cases e : p.1 = k
    · rw [if_pos e, if_pos (h1.symm.trans e)]; exact ⟨h1, ry⟩
    · rw [if_neg e, if_neg (fun z => e (h1.trans z))]; exact ⟨h1, h2⟩
theorem KV.put {kvs : List (κ × V)} {vs : List (κ × Value)} (r : KV kvs vs) (k : κ) {y : V} {u : Value} (ry : RelV y u) : KV (putK kvs k y) (stored vs k u) := by
  unfold putK stored
  rw [r.any k]
  by_cases e : (vs.any fun kv => decide (kv.1 = k)) = true
  · rw [if_pos e, if_pos e]; exact r.repl k ry
  · rw [if_neg e, if_neg e]; exact Paired.snoc r ⟨rfl, ry⟩
theorem KV.length {kvs : List (κ × V)} {vs : List (κ × Value)} (r : KV kvs vs) : kvs.length = vs.length := Paired.length r
end


/-! ### a tracked dict, its keys ints and texts or tuples of these -/
theorem kV_is {P : Program} {w : World} {k : Key} {u : Value} (r : RelV (kV k) u) : (mixKind P w).is k u = true := by
  cases k with
  | inl i => obtain ⟨t, e⟩ := (show ∃ t, u = Value.int i t from r); subst e; exact mixKind_int P w i t
  | inr x => obtain ⟨t, e⟩ := (show ∃ t, u = Value.str x t from r); subst e; exact mixKind_str P w x t
theorem items_are {P : Program} {w : World} : ∀ {ks : List Key} {us : List Value}, Vals (ks.map kV) us → ItemsAre (mixKind P w) ks us
  | [], _, r => by rw [List.map_nil] at r; cases r; exact .nil
  | k :: ks, _, r => by
    rw [List.map_cons] at r
    cases r with
    | cons h t => exact .cons (kV_is h) (items_are t)

/-- raw entries of a dict with tuple keys -/
abbrev KT (H : Hp) : List (List Key × V) → List (List Key × Addr × Value) → Prop := Paired fun p q => p.1 = q.1 ∧ H q.2.1 = some (.tup (p.1.map kV)) ∧ RelV p.2 q.2.2
theorem KT.val {H : Hp} {kvs : List (List Key × V)} {xs : List (List Key × Addr × Value)} (r : KT H kvs xs) (k : List Key) : RelO (valV kvs k) ((atKey xs k).map (·.2)) := by
  induction r with
  | nil => exact True.intro
  | @cons p q ps qs h t ih =>
    obtain ⟨h1, _, h2⟩ := h
    by_cases e : p.1 = k
    · have e' : q.1 = k := h1.symm.trans e
      have b : atKey (q :: qs) k = some q.2 := by simp [atKey, List.find?_cons, e']
      rw [valV_pos e, b]; exact h2
    · have e' : ¬ q.1 = k := fun z => e (h1.trans z)
      have b : atKey (q :: qs) k = atKey qs k := by simp [atKey, List.find?_cons, e']
      rw [valV_neg e, b]; exact ih
theorem KT.repl {H : Hp} {kvs : List (List Key × V)} {xs : List (List Key × Addr × Value)} (r : KT H kvs xs) (k : List Key) {y : V} {u : Value} (ry : RelV y u) :
    KT H (kvs.map fun kv => if kv.1 = k then (kv.1, y) else kv) (xs.map (putAt k u)) := by
  induction r with
  | nil => exact .nil
  | @cons p q ps qs h t ih =>
    rw [List.map_cons, List.map_cons]
    refine .cons ?_ ih
    obtain ⟨h1, h2, h3⟩ := h
    unfold putAt
    by_cases e : p.1 = k
    · rw [if_pos e, if_pos (h1.symm.trans e)]; exact ⟨h1, h2, ry⟩
    · rw [if_neg e, if_neg (fun z => e (h1.trans z))]; exact ⟨h1, h2, h3⟩
theorem KT.put {H : Hp} {kvs : List (List Key × V)} {xs : List (List Key × Addr × Value)} (r : KT H kvs xs) (k : List Key) {b : Addr} {y : V} {u : Value} (hb : H b = some (.tup (k.map kV))) (ry : RelV y u) :
    KT H (putK kvs k y) (storedH xs k b u) := by
  have e : (kvs.any fun kv => decide (kv.1 = k)) = (atKey xs k).isSome := by
    rw [valV_any, (r.val k).isSome_eq, Option.isSome_map]
  unfold putK storedH
  rw [e]
  by_cases q : (atKey xs k).isSome = true
  · rw [if_pos q, if_pos q]; exact r.repl k ry
  · rw [if_neg q, if_neg q]; exact Paired.snoc r ⟨rfl, hb, ry⟩
theorem KT.keeps {H H' : Hp} {kvs : List (List Key × V)} {xs : List (List Key × Addr × Value)} (r : KT H kvs xs) (ht : ∀ b ys, H b = some (.tup ys) → H' b = some (.tup ys)) : KT H' kvs xs :=
  Paired.mapP r fun _ _ z => ⟨z.1, ht _ _ z.2.1, z.2.2⟩

section
variable {P : Program} {w : World} {H : Hp} {h : Heap} {a : Addr}
theorem rd_of {u : HO} (ok : HOk P w H h) (e : Rd H a u) : ObjOk P w H h a u := e.ok ok
theorem dk_rd {kvs : List (Key × V)} (ok : HOk P w H h) (e : Rd H a (.dK kvs)) : kvs.length ≤ sizeLine ∧ (a == sysModules) = false ∧ ∃ vs, KV kvs vs ∧ h.DictOf (mixKind P w) a vs :=
  show ObjOk P w H h a (.dK kvs) from rd_of ok e
theorem dk_of {kvs : List (Key × V)} (ok : HOk P w H h) (e : H a = some (.dK kvs)) : kvs.length ≤ sizeLine ∧ (a == sysModules) = false ∧ ∃ vs, KV kvs vs ∧ h.DictOf (mixKind P w) a vs := dk_rd ok (.inl e)
/-- a tracked tuple of ints and texts is a key -/
theorem key_of {ks : List Key} (ok : HOk P w H h) (e : H a = some (.tup (ks.map kV))) : (tupleKind (mixKind P w)).is h ks a := by
  obtain ⟨_, its, r, o, h1, h2, n, h3, _⟩ := (show ObjOk P w H h a (.tup (ks.map kV)) from ok a _ e)
  exact ⟨o, its.toArray, n, h1, h2, h3, by simpa using items_are r⟩
theorem dt_rd {kvs : List (List Key × V)} (ok : HOk P w H h) (e : Rd H a (.dT kvs)) : kvs.length ≤ sizeLine ∧ (a == sysModules) = false ∧
    ∃ xs, KT H kvs xs ∧ h.DictOfH (tupleKind (mixKind P w)) a xs := by
  obtain ⟨z, y, xs, r, o, es, ep, h1, h2, h3, h4, h5⟩ := (show ObjOk P w H h a (.dT kvs) from rd_of ok e)
  refine ⟨z, y, xs, r, o, es, ep, h1, h2, h3, h4, fun x hx => ?_, h5⟩
  have all : ∀ {l : List (List Key × V)} {m : List (List Key × Addr × Value)}, KT H l m → ∀ x ∈ m, (tupleKind (mixKind P w)).is h x.1 x.2.1 := by
    intro l m q
    induction q with
    | nil => intro x hx; exact nomatch hx
    | @cons p q ps qs hq t ih =>
      intro x hx
      rcases List.mem_cons.mp hx with e | hx
      · subst e
        exact key_of ok (by rw [← hq.1]; exact hq.2.1)
      · exact ih x hx
  exact all r x hx
theorem dt_of {kvs : List (List Key × V)} (ok : HOk P w H h) (e : H a = some (.dT kvs)) : kvs.length ≤ sizeLine ∧ (a == sysModules) = false ∧
    ∃ xs, KT H kvs xs ∧ h.DictOfH (tupleKind (mixKind P w)) a xs := dt_rd ok (.inl e)
end

/-- what the dict at a holds at the key y -/
def DGet (H : Hp) (a : Addr) (y : V) (r : Option V) : Prop :=
  (∃ kvs k, Rd H a (.dK kvs) ∧ y = kV k ∧ r = valV kvs k) ∨ ∃ kvs k b, Rd H a (.dT kvs) ∧ y = .ref b ∧ H b = some (.tup (k.map kV)) ∧ r = valV kvs k
/-- the heap behind a[y] = v -/
def DPut (H : Hp) (a : Addr) (y v : V) (H' : Hp) : Prop :=
  (∃ kvs k, H a = some (.dK kvs) ∧ y = kV k ∧ kvs.length < sizeLine ∧ H' = upd H a (.dK (putK kvs k v))) ∨
  ∃ kvs k b, H a = some (.dT kvs) ∧ y = .ref b ∧ H b = some (.tup (k.map kV)) ∧ kvs.length < sizeLine ∧ H' = upd H a (.dT (putK kvs k v))
theorem DGet.k {H : Hp} {a : Addr} {kvs : List (Key × V)} {k : Key} (e : H a = some (.dK kvs)) : DGet H a (kV k) (valV kvs k) := .inl ⟨kvs, k, .inl e, rfl, rfl⟩
theorem DPut.k {H : Hp} {a : Addr} {kvs : List (Key × V)} {k : Key} {v : V} (e : H a = some (.dK kvs)) (hl : kvs.length < sizeLine) : DPut H a (kV k) v (upd H a (.dK (putK kvs k v))) := .inl ⟨kvs, k, e, rfl, hl, rfl⟩
section
variable {X : Cx} {pins : List (Addr × Obj)} {σ : St} {H : Hp} {s : Shared} {a : Addr} {y v : V} {u r : Value} {o : Option V} {A : Around} {E : Value → Shared → Prop}

theorem Inv.big (I : Inv X pins σ H s) : sysModules < s.heap.objs.size := by
  have h : mainGlobals < s.heap.objs.size := (I.mod.glob.keeps I.bk).lt
  exact Nat.lt_trans (by decide) h

/-- d[y], there -/
theorem d_getItem {Q : Value → Shared → Prop} (hu : A.units + 1 < cLine) (I : Inv X pins σ H s) (g : DGet H a y (some v)) (ry : RelV y u) (h : ∀ w' s', Inv X pins σ H s' → RelV v w' → Q w' s') :
    wpAny (model X.prog X.w) A (getItem (.ref a) u) Q E s := by
  rcases g with ⟨kvs, k, e, ey, l⟩ | ⟨kvs, k, b, e, ey, eb, l⟩
  · subst ey
    obtain ⟨z, hd, vs, rel, dd⟩ := dk_rd I.hok e
    obtain ⟨w', hw, rw'⟩ := RelO.some_of (v := v) (o := valueAt vs k) (by rw [l]; exact rel.val k)
    exact wpAny_getItem_of (kV_is ry) dd.mapOf hw (h w' _ (I.tok _) rw')
  · subst ey
    cases (show u = Value.ref b from ry)
    obtain ⟨z, hd, xs, rel, dd⟩ := dt_rd I.hok e
    obtain ⟨w', hw, rw'⟩ := RelO.some_of (v := v) (o := (atKey xs k).map (·.2)) (by rw [l]; exact rel.val k)
    obtain ⟨p, hp, hp2⟩ := Option.map_eq_some_iff.mp hw
    refine wpAny_getItem_heap (tupleKind_room_in1 hu) (key_of I.hok eb) dd hp ?_
    rw [hp2]
    exact h w' _ (I.tok _) rw'
/-- a dict's object is replaced -/
theorem d_write {h' : Heap} {t' : Nat} {ob : HO} (I : Inv X pins σ H s) (mu : Mut (H a)) (hs : Heap.SameBut a s.heap h') (he : ∃ q, h'.get? a = some q) (new : ObjOk X.prog X.w (upd H a ob) h' a ob) :
    Inv X pins σ (upd H a ob) { s with heap := h', toks := t' } :=
  I.write (x := a) (e := a) mu (.inl rfl) (fun b q hb z => (hs.2 b hb).trans z) he new
theorem dk_new {P : Program} {w : World} {H' : Hp} {h' : Heap} {kvs : List (Key × V)} {vs : List (Key × Value)} (z : kvs.length ≤ sizeLine) (hd : (a == sysModules) = false) (rel : KV kvs vs) (dd : h'.DictOf (mixKind P w) a vs) :
    ObjOk P w H' h' a (.dK kvs) := ⟨z, hd, vs, rel, dd⟩
/-- d[y] = v -/
theorem d_setItem {H' : Hp} {Q : Unit → Shared → Prop} (hu : A.units + 1 < cLine) (I : Inv X pins σ H s) (g : DPut H a y v H') (ry : RelV y u) (rv : RelV v r) (h : ∀ s', Inv X pins σ H' s' → Q () s') :
    wpAny (model X.prog X.w) A (setItem (.ref a) u r) Q E s := by
  rcases g with ⟨kvs, k, e, ey, l, eH⟩ | ⟨kvs, k, b, e, ey, eb, l, eH⟩
  · subst ey eH
    obtain ⟨z, hd, vs, rel, dd⟩ := dk_of I.hok e
    have hz : vs.length ≤ sizeLine := by rw [← rel.length]; exact z
    have hl : (putK kvs k v).length ≤ sizeLine := by have := length_putK kvs k v; omega
    refine wpAny_setItem_pairs (hsz := hz) (kV_is ry) dd fun h' dd' hs => h _ ?_
    have he : ∃ q, h'.get? a = some q := let ⟨q, _, _, hq, _⟩ := dd'; ⟨q, hq⟩
    exact d_write I (by rw [e]; exact True.intro) hs he (dk_new hl hd (rel.put k rv) dd')
  · subst ey eH
    cases (show u = Value.ref b from ry)
    obtain ⟨z, hd, xs, rel, dd⟩ := dt_of I.hok e
    have hz : xs.length ≤ sizeLine := by rw [← Paired.length rel]; exact z
    have hl : (putK kvs k v).length ≤ sizeLine := by have := length_putK kvs k v; omega
    refine wpAny_setItem_heap (hsz := hz) (tupleKind_room_in1 hu) (key_of I.hok eb) dd fun h' dd' hs => h _ ?_
    obtain ⟨q, es, ep, hq, h2, h3, h4, _, h5⟩ := dd'
    refine d_write I (by rw [e]; exact True.intro) hs ⟨q, hq⟩ ⟨hl, hd, _, (rel.put k eb rv).keeps fun c ys ec => ?_, q, es, ep, hq, h2, h3, h4, h5⟩
    rw [upd_ne (ne_of ec e (fun z => nomatch z))]
    exact ec
end

section
variable {X : Cx} {pins : List (Addr × Obj)} {σ : St} {H : Hp} {s : Shared} {a : Addr} {kvs : List (Key × V)} {k : Key} {u : Value} {A : Around} {E : Value → Shared → Prop}
end


/-! ### readings and rules -/
/-- the element of a subscription, not a slice -/
def NoSl (i : Expr) : Prop := ∀ ov iv, subscripted i false ov iv = operate [ov, iv] (getItem ov iv)
theorem subD_of {prog : Program} {w : World} {A : Around} {E : Value → Shared → Prop} {s : Shared} {env : Env} {value slice : Expr} {pos : Pos} {T id : String} {Q : Value → Shared → Prop}
    (hl : typeLookup (.type T) "__getitem__" = pure (some (.builtin id))) (hs : NoSl slice)
    (h : wpAny (model prog w) A (eval value env) (fun o s₁ => wpAny (model prog w) A (eval slice env) (fun i s₂ => s₂.TypeIs o T ∧ wpAny (model prog w) A (getItem o i) Q E s₂) E s₁) E s) :
    wpAny (model prog w) A (eval (.Subscript value slice pos) env) Q E s := by
  refine Subscript_ (wpAny_mono h (fun o s₁ h₁ => wpAny_mono h₁ (fun i s₂ h₂ => ?_) fun _ _ x => x) fun _ _ x => x)
  obtain ⟨hT, h₂⟩ := h₂
  unfold subscriptTail
  refine wpAny_bind ?_
  rw [getitemInPython_of_ne hT.not_modules]
  refine wpAny_bind (wpAny_specialOf hT hl ?_)
  have fin : wpAny (model prog w) A (subscripted slice false o i) (fun r s₃ => wpAny (model prog w) A (letTemporaryGo value o r >>= fun _ => pure r) Q E s₃) E s₂ := by
    rw [hs o i]
    exact wpAny_operating (wpAny_mono h₂ (fun r s₃ h₃ => wpAny_bind (wpAny_letTemporaryGo (wpAny_pure h₃))) fun _ _ x => x)
  first
    | exact wpAny_pure (wpAny_bind fin)
    | exact wpAny_bind (wpAny_pure (wpAny_bind fin))
    | exact wpAny_bind fin

theorem dict_typeIs {X : Cx} {pins : List (Addr × Obj)} {σ : St} {H : Hp} {s : Shared} {a : Addr} {y : V} {o : Option V} (I : Inv X pins σ H s) (g : DGet H a y o) : s.TypeIs (.ref a) "dict" := by
  rcases g with ⟨kvs, k, e, _, _⟩ | ⟨kvs, k, b, e, _, _, _⟩
  · obtain ⟨_, _, vs, _, dd⟩ := dk_rd I.hok e
    exact dd.typeIs
  · obtain ⟨_, _, xs, _, dd⟩ := dt_rd I.hok e
    exact dd.typeIs
/-- d[y] -/
def tDGet (td ty : TE) : TE := fun σ H Q => td σ H fun x H1 => ty σ H1 fun y H2 => ∃ a v, x = .ref a ∧ DGet H2 a y (some v) ∧ Q v H2
/-- d[y] = v -/
def sDPut (td ty tv : TE) : TS := fun D σ H => tv σ H fun v H1 => td σ H1 fun x H2 => ty σ H2 fun y H3 => ∃ a H4, x = .ref a ∧ DPut H3 a y v H4 ∧ D.nx σ H4
section
variable {X : Cx} {o i e value : Expr} {pos pos' tpos : Pos} {td ty tv : TE}
theorem pe_dget (hu : X.A.units + 1 < cLine) (ho : PE X o td) (hi : PE X i ty) (hs : NoSl i) : PE X (.Subscript o i pos) (tDGet td ty) := by
  intro pins s σ H Q I h
  refine subD_of PySem.F.slot_dict_getitem.lookup hs (thn (ho pins s σ H _ I h) fun u s1 ⟨x, H1, I1, rx, q1⟩ => thn (hi pins s1 σ H1 _ I1 q1) fun iv s2 ⟨y, H2, I2, ry, a, v, ex, g, q2⟩ => ?_)
  subst ex
  obtain rfl : u = Value.ref a := rx
  exact ⟨dict_typeIs I2 g, d_getItem hu I2 g ry fun w' s3 I3 rw' => ⟨v, H2, I3, rw', q2⟩⟩
theorem ps_dput (hu : X.A.units + 1 < cLine) (ho : PE X o td) (hi : PE X i ty) (hv : PE X value tv) (hs : swapsWith value (some (.Subscript o i pos')) pos.line X.env = pure false) :
    PS X (.Assign [.Subscript o i pos'] value pos) (sDPut td ty tv) := by
  intro pins s σ H D I h
  refine wpAny_Assign_Subscript (thn (hv pins s σ H _ I h) fun r s1 ⟨v, H1, I1, rv, q1⟩ => thn (ho pins s1 σ H1 _ I1 q1) fun u s2 ⟨x, H2, I2, rx, q2⟩ => thn (hi pins s2 σ H2 _ I2 q2) fun iv s3 ⟨y, H3, I3, ry, a, H4, ex, g, q3⟩ => ?_) hs
  subst ex
  obtain rfl : u = Value.ref a := rx
  exact d_setItem hu I3 g ry rv fun s4 I4 => ⟨σ, H4, I4, q3⟩
end


/-! ### displays -/
theorem dk_empty {P : Program} {w : World} {H : Hp} (h : Heap) (hb : sysModules < h.objs.size) : ObjOk P w H (h.push { cls := .type "dict", data := .dict #[] }) h.objs.size (.dK []) :=
  ⟨Nat.zero_le _, beq_eq_false_iff_ne.mpr (Ne.symm (Nat.ne_of_lt hb)), [], .nil, Heap.DictOf.new h⟩
/-- {}, to be a dict of the kind that is wanted -/
def tDNewK : TE := fun _ H Q => ∀ p, H p = none → Q (.ref p) (upd H p (.dK []))
section
variable {X : Cx} {pos : Pos}
theorem pe_dnewK : PE X (.Dict [] [] pos) tDNewK := fun pins s σ H Q I h =>
  wpAny_Dict_empty ⟨.ref s.heap.objs.size, _, I.laid (a := s.heap.objs.size) (o := .dK []) (t' := s.toks) (fun _ _ q => Heap.get?_push_of_some _ q) (Nat.le_refl _) (dk_empty s.heap I.big), rfl, h _ (I.hok.fresh (Nat.le_refl _))⟩
end

/-- the pairs of a display, from the left -/
def tPairs : List (TE × TE) → St → Hp → (List (V × V) → Hp → Prop) → Prop
  | [], _, H, Q => Q [] H
  | (tk, tv) :: r, σ, H, Q => tk σ H fun x H1 => tv σ H1 fun y H2 => tPairs r σ H2 fun ps H3 => Q ((x, y) :: ps) H3
abbrev VV : List (V × V) → List (Value × Value) → Prop := Paired fun p q => RelV p.1 q.1 ∧ RelV p.2 q.2
def PPs (X : Cx) (pos : Pos) (keys : List (Option Expr)) (values : List Expr) (trs : List (TE × TE)) : Prop :=
  ∀ (pins : List (Addr × Obj)) (s : Shared) (σ : St) (H : Hp) (Q : List (V × V) → Hp → Prop), Inv X pins σ H s → tPairs trs σ H Q →
    wpAny (model X.prog X.w) X.A (evalPairs (pairTrees keys values X.env pos)) (fun vs s' => ∃ ps H', Inv X pins σ H' s' ∧ VV ps vs ∧ Q ps H') X.xe s
theorem pps_nil {X : Cx} {pos : Pos} : PPs X pos [] [] [] := fun pins s σ H Q I h => pairTrees_nil_walk ⟨[], H, I, .nil, h⟩
theorem pps_cons {X : Cx} {pos : Pos} {k v : Expr} {ks : List (Option Expr)} {vs : List Expr} {tk tv : TE} {trs : List (TE × TE)} (hk : PE X k tk) (hv : PE X v tv) (hr : PPs X pos ks vs trs) :
    PPs X pos (some k :: ks) (v :: vs) ((tk, tv) :: trs) := fun pins s σ H Q I h =>
  pairTrees_cons_walk (thn (hk pins s σ H _ I h) fun u s1 ⟨x, H1, I1, rx, q1⟩ => thn (hv pins s1 σ H1 _ I1 q1) fun w2 s2 ⟨y, H2, I2, ry, q2⟩ =>
    thn (hr pins s2 σ H2 _ I2 q2) fun ws s3 ⟨ps, H3, I3, rel, q3⟩ => ⟨(x, y) :: ps, H3, I3, .cons ⟨rx, ry⟩ rel, q3⟩)

def mergeK (kvs more : List (Key × V)) : List (Key × V) := more.foldl (fun acc kv => putK acc kv.1 kv.2) kvs
theorem KV.merge : ∀ {more : List (Key × V)} {rs : List (Key × Value)} {kvs : List (Key × V)} {vs : List (Key × Value)}, KV more rs → KV kvs vs → KV (mergeK kvs more) (merged vs rs) := by
  intro more rs kvs vs r
  unfold KV at r
  induction r generalizing kvs vs with
  | nil => intro q; exact q
  | @cons p q ps qs h t ih =>
    intro r0
    have e : KV (putK kvs p.1 p.2) (stored vs q.1 q.2) := by
      have := r0.put p.1 h.2
      rw [← h.1]; exact this
    exact ih e
theorem length_mergeK : ∀ (more kvs : List (Key × V)), (mergeK kvs more).length ≤ kvs.length + more.length
  | [], kvs => by show kvs.length ≤ kvs.length + 0; omega
  | p :: r, kvs => by
    have h1 := length_mergeK r (putK kvs p.1 p.2)
    have h2 := length_putK kvs p.1 p.2
    show (mergeK (putK kvs p.1 p.2) r).length ≤ _
    rw [List.length_cons]; omega
theorem carries_of {P : Program} {w : World} : ∀ {kvs : List (Key × V)} {ws : List (Value × Value)}, VV (kvs.map fun kv => (kV kv.1, kv.2)) ws → ∃ rs, Carries (mixKind P w) ws rs ∧ KV kvs rs
  | [], _, r => by rw [List.map_nil] at r; cases r; exact ⟨[], True.intro, .nil⟩
  | p :: kvs, _, r => by
    rw [List.map_cons] at r
    cases r with
    | @cons a b as bs h t =>
      obtain ⟨rs, c, q⟩ := carries_of (P := P) (w := w) t
      obtain ⟨b1, b2⟩ := b
      exact ⟨(p.1, b2) :: rs, ⟨kV_is h.1, rfl, c⟩, .cons ⟨rfl, h.2⟩ q⟩
/-- {k: v, ..} with keys ints and texts; the new dict stands empty while the pairs are made -/
def tDisp (trs : List (TE × TE)) : TE := fun σ H Q => ∀ p, H p = none → tPairs trs σ (upd H p (.dK [])) fun ps H2 => H2 p = some (.dK []) ∧ ∃ kvs : List (Key × V), ps = kvs.map (fun kv => (kV kv.1, kv.2)) ∧ kvs.length ≤ 15 ∧ Q (.ref p) (upd H2 p (.dK (mergeK [] kvs)))
theorem pe_disp {X : Cx} {pos : Pos} {keys : List (Option Expr)} {values : List Expr} {trs : List (TE × TE)} (h : PPs X pos keys values trs) (hall : keys.all (·.isSome) = true) (hl : keys.length = values.length) (h0 : keys ≠ [])
    (h15 : keys.length ≤ 15) : PE X (.Dict keys values pos) (tDisp trs) := by
  intro pins s σ H Q I q
  have hn := I.hok.fresh (Nat.le_refl s.heap.objs.size)
  have I1 := I.laid (a := s.heap.objs.size) (o := .dK []) (h' := s.heap.push { cls := .type "dict", data := .dict #[] }) (t' := s.toks) (fun _ _ q => Heap.get?_push_of_some _ q) (Nat.le_refl _) (dk_empty s.heap I.big)
  refine wpAny_Dict_walk (knd := mixKind X.prog X.w) hall hl h0 h15 (thn (h pins _ σ _ _ I1 (q _ hn)) fun ws s2 ⟨ps, H2, I2, rel, e, kvs, ep, lk, q2⟩ => ?_)
  subst ep
  obtain ⟨rs, c, rk⟩ := carries_of (P := X.prog) (w := X.w) rel
  obtain ⟨z, hd, vs0, r0, dd⟩ := dk_of I2.hok e
  cases r0
  refine ⟨rs, c, dd, fun h' dd' hs => ⟨.ref s.heap.objs.size, _, ?_, rfl, q2⟩⟩
  have hz : (mergeK [] kvs).length ≤ sizeLine := by
    have h1 := length_mergeK kvs []
    rw [List.length_nil] at h1
    rw [sizeLine_eq]; omega
  have he : ∃ q, h'.get? s.heap.objs.size = some q := let ⟨q, _, _, hq, _⟩ := dd'; ⟨q, hq⟩
  exact d_write I2 (by rw [e]; exact True.intro) hs he (dk_new hz hd (rk.merge .nil) dd')


/-! ### methods -/
structure M2 (X : Cx) (o : Expr) (m : Str) (apos : Pos) (e f : Expr) (cpos : Pos) : Prop where
  base : attributeBase o m X.env (eval o X.env) = eval o X.env
  few : ((backTo cpos (starEach [e, f] X.env)).all (fun x => !x.1) && (backToKw cpos (keywordEach [] X.env)).all (fun x => x.1.isSome)
    && decide (([e, f] : List Expr).length + ([] : List Keyword).length + (if ([] : List Keyword).isEmpty then 0 else 1) < 30)) = true
  line : (apos.endLine == cpos.line) = true
  trees : backTo cpos (starEach [e, f] X.env) = [(false, eval e X.env), (false, eval f X.env)]

/-- a is a dict, whatever its keys -/
def IsD (H : Hp) (a : Addr) : Prop := (∃ kvs, Rd H a (.dK kvs)) ∨ ∃ kvs, Rd H a (.dT kvs)
theorem isD_at {X : Cx} {pins : List (Addr × Obj)} {σ : St} {H : Hp} {s : Shared} {a : Addr} (I : Inv X pins σ H s) (d : IsD H a) :
    s.TypeIs (.ref a) "dict" ∧ (∀ b, Value.ref a = .ref b → ∃ ob, s.heap.get? b = some ob ∧ ob.dict = none) ∧ (a == sysModules) = false := by
  rcases d with ⟨kvs, e⟩ | ⟨kvs, e⟩
  · obtain ⟨_, hd, vs, _, dd⟩ := dk_rd I.hok e
    refine ⟨dd.typeIs, fun b q => ?_, hd⟩
    cases q
    obtain ⟨ob, _, _, h1, h2, _⟩ := dd
    exact ⟨ob, h1, h2.2.1⟩
  · obtain ⟨_, hd, xs, _, dd⟩ := dt_rd I.hok e
    refine ⟨dd.typeIs, fun b q => ?_, hd⟩
    cases q
    obtain ⟨ob, _, _, h1, h2, _⟩ := dd
    exact ⟨ob, h1, h2.2.1⟩

section
variable {X : Cx} {pins : List (Addr × Obj)} {σ : St} {H : Hp} {s : Shared} {a : Addr} {y d : V} {u r : Value} {o : Option V} {A : Around} {E : Value → Shared → Prop}
/-- d.get(y, x) -/
theorem d_get2 {Q : Value → Shared → Prop} (hu : A.units + 1 < cLine) (I : Inv X pins σ H s) (g : DGet H a y o) (ry : RelV y u) (rd : RelV d r) (h : ∀ w' s', Inv X pins σ H s' → RelV (o.getD d) w' → Q w' s') :
    wpAny (model X.prog X.w) A (call (.builtin "dict.get") [.ref a, u, r]) Q E s := by
  rcases g with ⟨kvs, k, e, ey, l⟩ | ⟨kvs, k, b, e, ey, eb, l⟩
  · subst ey
    obtain ⟨z, hd, vs, rel, dd⟩ := dk_rd I.hok e
    refine call_meetsIn PySem.F.slot_dict_get dd.typeIs PySem.F.entry_dict_get (PySem.F.args_dict_get_3 _ _ _) (meets_dict_get_default (mixKind X.prog X.w) a (kV_is ry) hd r) ⟨_, dd.mapOf, h _ _ (I.tok _) ?_⟩
    rw [l]
    exact (rel.val k).getD rd
  · subst ey
    cases (show u = Value.ref b from ry)
    obtain ⟨z, hd, xs, rel, dd⟩ := dt_rd I.hok e
    refine call_meetsIn PySem.F.slot_dict_get dd.typeIs PySem.F.entry_dict_get (PySem.F.args_dict_get_3 _ _ _) (meetsH_dict_get_default (tupleKind (mixKind X.prog X.w)) a b hd r) ⟨tupleKind_room_in1 hu, k, xs, key_of I.hok eb, dd, h _ _ (I.tok _) ?_⟩
    rw [l]
    exact (rel.val k).getD rd
end

def tDGet2 (td ty tx : TE) : TE := fun σ H Q => td σ H fun x H1 => ∃ a, x = .ref a ∧ IsD H1 a ∧ ty σ H1 fun y H2 => tx σ H2 fun z H3 => ∃ o, DGet H3 a y o ∧ Q (o.getD z) H3
section
variable {X : Cx} {o e f : Expr} {apos cpos : Pos} {td ty tx : TE}
theorem pe_dget2 (hu : X.A.units + 1 < cLine) (ho : PE X o td) (he : PE X e ty) (hf : PE X f tx) (m : M2 X o "get" apos e f cpos) : PE X (.Call (.Attribute o "get" apos) [e, f] [] cpos) (tDGet2 td ty tx) := by
  intro pins s σ H Q I h
  refine wpAny_Call_method m.base m.few m.line PySem.F.plainAttrs_dict PySem.F.slot_dict_get PySem.F.type_dict_get (thn (ho pins s σ H _ I h) fun u s1 ⟨x, H1, I1, rx, a, ex, d, q1⟩ => ?_)
  subst ex
  obtain rfl : u = Value.ref a := rx
  obtain ⟨t1, t2, _⟩ := isD_at I1 d
  refine ⟨t1, t2, ?_⟩
  rw [m.trees]
  refine Calls.callWith_builtin rfl (Calls.evalArgs_plain (Calls.spliced_cons (thn (he pins s1 σ H1 _ I1 q1) fun iv s2 ⟨y, H2, I2, ry, q2⟩ =>
    Calls.spliced_cons (thn (hf pins s2 σ H2 _ I2 q2) fun fv s3 ⟨z, H3, I3, rz, ov, g, q3⟩ => Calls.spliced_nil ?_))))
  exact d_get2 hu I3 g ry rz fun w' s4 I4 rw' => ⟨_, H3, I4, rw', q3⟩
end

/-! ### dict(d): a copy -/
section
variable {X : Cx} {pins : List (Addr × Obj)} {σ : St} {H : Hp} {s : Shared} {a : Addr} {kvs : List (Key × V)} {A : Around} {E : Value → Shared → Prop}
end


section
variable {X : Cx} {pins : List (Addr × Obj)} {σ : St} {H : Hp} {s : Shared} {a : Addr} {y : V} {u : Value} {A : Around} {E : Value → Shared → Prop}
end
end L2

namespace HT
open PySem PyProof.Rows

section
open PySem.SeqAt
open PySem.AutoSeq1 (wpAny_loadPart')
open PySem.MeetsSeq PySem.MeetsSeq2 PySem.MeetsSeq3

end

section
variable {prog : Program} {w : World} {A : Around} {E : Value → Shared → Prop} {s : Shared}

/-! ### t[a:b], not the whole -/
/-- a slice's bound as a place among n (d where it is left out) -/
def sIx (n d : Nat) : Option Int → Nat
  | none => d
  | some v => if v < 0 then (v + (n : Int)).toNat else min v.toNat n
end
end HT

namespace L2
open PySem PySem.Spec PyProof.Rows

/-! ### the parts of a slice -/
abbrev TO := St → Hp → (Option Int → Hp → Prop) → Prop
/-- a slice's part (left out, or an int) -/
def PO (X : Cx) (e : Option Expr) (t : TO) : Prop :=
  ∀ (pins : List (Addr × Obj)) (s : Shared) (σ : St) (H : Hp) (Q : Option Int → Hp → Prop), Inv X pins σ H s → t σ H Q →
    wpAny (model X.prog X.w) X.A (evalPart e X.env) (fun u s' => ∃ o H', Inv X pins σ H' s' ∧ IsPart u o ∧ Q o H') X.xe s
def tNoPart : TO := fun _ H Q => Q none H
def tPart (t : TE) : TO := fun σ H Q => t σ H fun x H1 => ∃ i, x = .int i ∧ Q (some i) H1

theorem intsAre_of {ns : List Int} : ∀ {us : List Value}, Vals (ns.map V.int) us → IntsAre us ns := by
  induction ns with
  | nil => intro us r; rw [List.map_nil] at r; cases r; exact .nil
  | cons n ns ih =>
    intro us r
    rw [List.map_cons] at r
    cases r with
    | cons r1 r2 =>
      obtain ⟨t, e⟩ := r1
      subst e
      exact .cons n t (ih r2)

section
variable {X : Cx} {e : Expr} {te : TE} {lo hi : Option Expr} {tl th : TO} {pos p2 : Pos}

theorem po_none : PO X none tNoPart := by
  intro pins s σ H Q I h
  rw [evalPart_none]
  exact wpAny_pure ⟨none, H, I, .none, h⟩
theorem po_some (h : PE X e te) : PO X (some e) (tPart te) := by
  intro pins s σ H Q I hw
  rw [evalPart_some]
  refine thn (h pins s σ H _ I hw) fun u s1 ⟨x, H1, I1, r1, q1⟩ => ?_
  obtain ⟨i, rfl, q⟩ := q1
  obtain ⟨t, rfl⟩ := r1
  exact ⟨some i, H1, I1, .int i t, q⟩

/-- what a slice of a value is, by values: the slice object stands at sl -/
def SlR (X : Cx) (r : V → Option Int → Option Int → Hp → VK → Prop) : Prop :=
  ∀ (pins : List (Addr × Obj)) (s : Shared) (σ : St) (H : Hp) (x : V) (v vl vu : Value) (lo hi : Option Int) (sl : Addr) (Q : VK), Inv X pins σ H s → RelV x v → s.heap.IsSliceOf sl vl vu .none → IsPart vl lo → IsPart vu hi → r x lo hi H Q →
    ∃ T id, typeLookup (.type T) "__getitem__" = pure (some (.builtin id)) ∧ s.TypeIs v T ∧ wpAny (model X.prog X.w) X.A (getItem v (.ref sl)) (EP X pins σ Q) X.xe s
def tSl (r : V → Option Int → Option Int → Hp → VK → Prop) (te : TE) (tl th : TO) : TE := fun σ H Q => te σ H fun x H1 => tl σ H1 fun l H2 => th σ H2 fun u H3 => r x l u H3 Q
/-- a[lo:hi], any a -/
theorem pe_slice {r : V → Option Int → Option Int → Hp → VK → Prop} (hr : SlR X r) (he : PE X e te) (hl : PO X lo tl) (hu : PO X hi th) : PE X (.Subscript e (.Slice lo hi none p2) pos) (tSl r te tl th) := by
  intro pins s σ H Q I h
  refine Subscript_ (thn (he pins s σ H _ I h) fun v s1 ⟨x, H1, I1, r1, q1⟩ => ?_)
  refine wpAny_Slice (thn (hl pins s1 σ H1 _ I1 q1) fun vl s2 ⟨l, H2, I2, pl, q2⟩ => thn (hu pins s2 σ H2 _ I2 q2) fun vu s3 ⟨u, H3, I3, pu, q3⟩ => ?_)
  rw [evalPart_none]
  refine wpAny_pure ?_
  have I4 : Inv X pins σ H3 { s3 with heap := s3.heap.push { cls := .type "slice", data := .fields #[vl, vu, .none] } } := I3.kept (t' := s3.toks) fun b ob q => Heap.get?_push_of_some _ q
  obtain ⟨T, id, hT, ht, hg⟩ := hr pins { s3 with heap := s3.heap.push { cls := .type "slice", data := .fields #[vl, vu, .none] } } σ H3 x v vl vu l u s3.heap.objs.size Q I4 r1 (Heap.IsSliceOf.new ..) pl pu q3
  show wpAny (model X.prog X.w) X.A (subscriptTail e (.Slice lo hi none p2) v (.ref s3.heap.objs.size)) (EP X pins σ Q) X.xe { s3 with heap := s3.heap.push { cls := .type "slice", data := .fields #[vl, vu, .none] } }
  exact tail_any (ops := [.ref s3.heap.objs.size, v]) ht hT hg (by with_unfolding_all rfl)

/-- the items of xs[lo:hi] -/
def cutV (xs : List V) (lo hi : Option Int) : List V := (xs.drop (HT.sIx xs.length 0 lo)).take (HT.sIx xs.length xs.length hi - HT.sIx xs.length 0 lo)
theorem cutV_length (xs : List V) (lo hi : Option Int) : (cutV xs lo hi).length ≤ xs.length := by
  unfold cutV
  rw [List.length_take, List.length_drop]
  omega
/-! ### t < u, t + u -/
end
end L2

namespace L2
open PySem PySem.Spec PyProof.Rows

/-! ### places -/
/-- the place that an index of any sign means -/
def ixN (n : Nat) (i : Int) : Option Nat := if 0 ≤ i then (if i < n then some i.toNat else none) else if -(n : Int) ≤ i then some (i + n).toNat else none
def atI {α : Type} (xs : List α) (i : Int) : Option α := (ixN xs.length i).bind fun j => xs[j]?
theorem ixN_seq {n : Nat} {i : Int} {j : Nat} (h : ixN n i = some j) : seqIndex? i n = some j ∧ j < n ∧ -(n : Int) ≤ i ∧ i < n := by
  unfold ixN at h
  by_cases h0 : 0 ≤ i
  · rw [if_pos h0] at h
    by_cases h1 : i < n
    · rw [if_pos h1] at h
      have e : i.toNat = j := Option.some.inj h
      exact ⟨by rw [seqIndex_of h0 h1, e], by omega, by omega, h1⟩
    · rw [if_neg h1] at h; cases h
  · rw [if_neg h0] at h
    by_cases h1 : -(n : Int) ≤ i
    · rw [if_pos h1] at h
      have e : (i + n).toNat = j := Option.some.inj h
      exact ⟨by rw [seqIndex_neg (by omega) h1, e], by omega, h1, by omega⟩
    · rw [if_neg h1] at h; cases h
theorem atI_get {α : Type} {xs : List α} {i : Int} {v : α} (h : atI xs i = some v) : ∃ j, seqIndex? i xs.length = some j ∧ xs[j]? = some v ∧ j < xs.length ∧ -(xs.length : Int) ≤ i ∧ i < xs.length := by
  unfold atI at h
  cases e : ixN xs.length i with
  | none => rw [e] at h; cases h
  | some j =>
    rw [e] at h
    obtain ⟨h1, h2, h3, h4⟩ := ixN_seq e
    exact ⟨j, h1, h, h2, h3, h4⟩
theorem atI_nat {α : Type} {xs : List α} {j : Nat} {v : α} (h : xs[j]? = some v) : atI xs (j : Int) = some v := by
  have hj : j < xs.length := (List.getElem?_eq_some_iff.mp h).1
  have e : ixN xs.length (j : Int) = some j := by
    unfold ixN
    rw [if_pos (by omega), if_pos (by omega)]; simp
  unfold atI; rw [e]; exact h
/-! ### what may be subscripted -/
/-- what stands as an index of a plain subscript -/
def PlainIx (b : Expr) : Prop := ∀ o i, subscripted b false o i = operate [o, i] (getItem o i)
/-- a subscript by values -/
def IxR (X : Cx) (r : R2) : Prop :=
  ∀ (value slice : Expr) (pins : List (Addr × Obj)) (s : Shared) (σ : St) (H : Hp) (x y : V) (v u : Value) (Q : VK), Inv X pins σ H s → RelV x v → RelV y u → r x y H Q →
    subscripted slice false v u = operate [v, u] (getItem v u) → wpAny (model X.prog X.w) X.A (subscriptTail value slice v u) (EP X pins σ Q) X.xe s
/-- a call of a builtin's method by values: the receiver, the arguments -/
def MtR (X : Cx) (id : String) (r : V → List V → Hp → VK → Prop) : Prop :=
  ∀ (pins : List (Addr × Obj)) (s : Shared) (σ : St) (H : Hp) (x : V) (xs : List V) (v : Value) (us : List Value) (Q : VK), Inv X pins σ H s → RelV x v → Vals xs us → r x xs H Q →
    wpAny (model X.prog X.w) X.A (call (.builtin id) (v :: us)) (EP X pins σ Q) X.xe s
section
variable {X : Cx} {a b : Expr} {ta tb : TE} {pos : Pos}
/-- a[b] -/
theorem pe_ix {r : R2} (hr : IxR X r) (ha : PE X a ta) (hb : PE X b tb) (hs : PlainIx b) : PE X (.Subscript a b pos) (tOp r ta tb) := by
  intro pins s σ H Q I h
  exact Subscript_ (binT ha hb I h fun v u s2 x y H2 I2 rx ry q => hr a b pins s2 σ H2 x y v u Q I2 rx ry q (hs _ _))

def rIxL (K : PySem.W.Frag) : R2 := fun x y H Q => ∃ p xs i v, x = .ref p ∧ y = .int i ∧ SqL K H p xs ∧ atI xs i = some v ∧ Q v H
def rIxT (K : PySem.W.Frag) : R2 := fun x y H Q => ∃ p xs i v, x = .ref p ∧ y = .int i ∧ SqT K H p xs ∧ atI xs i = some v ∧ Q v H
theorem ix_list : IxR X (rIxL X.K) := by
  intro value slice pins s σ H x y v u Q I rx ry h hs
  obtain ⟨p, xs, i, z, rfl, rfl, hq, he, q⟩ := h
  cases rx
  obtain ⟨t, rfl⟩ := ry
  obtain ⟨its, r, pl, hz⟩ := I.list hq
  obtain ⟨j, h1, h2, h3, h4, h5⟩ := atI_get he
  obtain ⟨w, ew, rw'⟩ := r.get h2
  have hl := r.length
  have hn := line63
  have fin : EP X pins σ Q w s := ⟨z, H, I, rw', q⟩
  by_cases h0 : 0 ≤ i
  · have hj : i.toNat = j := by
      rw [seqIndex_of h0 h5] at h1
      exact Option.some.inj h1
    exact item_listR pl.isList h0 (by omega) (by rw [hj]; simpa using ew) fin hs
  · have hj : (i + (its.toArray.size : Int)).toNat = j := by
      rw [seqIndex_neg (by omega) h4] at h1
      rw [List.size_toArray, ← hl]
      exact Option.some.inj h1
    exact subscriptTail_builtinR (x := w) pl.isList.typeIs slot_list_getitem.lookup
      (wpAny_getItem_list_neg (Q := fun r s' => r = w ∧ EP X pins σ Q r s') pl.isList (by omega) (by rw [List.size_toArray] <;> omega) (by omega) (by rw [hj]; simpa using ew) ⟨rfl, fin⟩) hs
theorem ix_tup : IxR X (rIxT X.K) := by
  intro value slice pins s σ H x y v u Q I rx ry h hs
  obtain ⟨p, xs, i, z, rfl, rfl, hq, he, q⟩ := h
  cases rx
  obtain ⟨t, rfl⟩ := ry
  obtain ⟨its, r, pl, hz⟩ := I.tuple hq
  obtain ⟨j, h1, h2, h3, h4, h5⟩ := atI_get he
  obtain ⟨w, ew, rw'⟩ := r.get h2
  have hl := r.length
  have hn := line63
  have fin : EP X pins σ Q w s := ⟨z, H, I, rw', q⟩
  exact subscriptTail_builtinR (x := w) pl.typeIs slot_tuple_getitem.lookup
    (getItem_tuple (j := j) (Q := fun r s' => r = w ∧ EP X pins σ Q r s') pl (by omega) (by omega) (by rw [List.size_toArray, ← hl]; exact h1) (by simpa using ew) ⟨rfl, fin⟩) hs
/-! ### xs[i] = v, any sign -/
/-! ### slices -/
theorem slice_bounds (lo hi : Option Int) (n : Nat) : (sliceBounds lo hi none n).1 = ((HT.sIx n 0 lo : Nat) : Int) ∧ (sliceBounds lo hi none n).2.1 = ((HT.sIx n n hi : Nat) : Int) ∧ (sliceBounds lo hi none n).2.2 = 1 := by
  refine ⟨?_, ?_, rfl⟩
  · cases lo with
    | none => simp [sliceBounds, HT.sIx]
    | some i =>
      simp only [sliceBounds, HT.sIx, Option.getD_none, show (1 : Int) > 0 by decide, if_true]
      by_cases h : i < 0
      · simp only [h, if_true] <;> omega
      · simp only [h, if_false] <;> omega
  · cases hi with
    | none => simp [sliceBounds, HT.sIx]
    | some i =>
      simp only [sliceBounds, HT.sIx, Option.getD_none, show (1 : Int) > 0 by decide, if_true]
      by_cases h : i < 0
      · simp only [h, if_true] <;> omega
      · simp only [h, if_false] <;> omega
theorem slicePick_cut (its : List Value) (lo hi : Option Int) : slicePick its.toArray lo hi none = ((its.drop (HT.sIx its.length 0 lo)).take (HT.sIx its.length its.length hi - HT.sIx its.length 0 lo)).toArray := by
  obtain ⟨h1, h2, h3⟩ := slice_bounds lo hi its.toArray.size
  unfold slicePick
  rw [h1, h2, h3]
  simp only [sliceRange_one, pick_run, List.size_toArray] <;> rfl
/-- xs[lo:hi] of a list: a new list -/
def rSlL (K : PySem.W.Frag) : V → Option Int → Option Int → Hp → VK → Prop := fun x lo hi H Q => ∃ a xs, x = .ref a ∧ SqL K H a xs ∧ ∀ p, H p = none → Q (.ref p) (upd H p (.lst (cutV xs lo hi)))
theorem sl_list : SlR X (rSlL X.K) := by
  intro pins s σ H x v vl vu lo hi sl Q I rx hs pl pu h
  obtain ⟨a, xs, rfl, hx, q⟩ := h
  cases rx
  obtain ⟨its, r, ht, hz⟩ := I.list hx
  have hlen := r.length
  refine ⟨"list", _, slot_list_getitem.lookup, ht.isList.typeIs, ?_⟩
  refine wpAny_getItem_list_slice ht.isList hs pl pu .none (by simp) ?_ (by rw [List.size_toArray] <;> omega)
  rw [slicePick_cut, ← hlen]
  refine ⟨.ref s.heap.objs.size, _, I.laid (t' := s.toks) (o := .lst (cutV xs lo hi)) (fun b ob q => Heap.get?_push_of_some _ q) (Nat.le_refl _) ?_, rfl, q _ (I.hok.fresh (Nat.le_refl _))⟩
  exact ⟨Nat.le_trans (cutV_length xs lo hi) hz, _, 0, (r.drop (HT.sIx xs.length 0 lo)).take (HT.sIx xs.length xs.length hi - HT.sIx xs.length 0 lo), Heap.get?_push_size _ rfl⟩

/-! ### in, not in: flat items -/
def flatV : V → Bool
  | .non => true
  | .bl _ => true
  | .int _ => true
  | .str _ => true
  | _ => false
/-- == of flat values -/
def eqV : V → V → Bool
  | .non, .non => true
  | .bl a, .bl b => a == b
  | .bl a, .int b => (if a then 1 else 0) == b
  | .int a, .bl b => a == (if b then 1 else 0)
  | .int a, .int b => a == b
  | .str a, .str b => a == b
  | _, _ => false
theorem eqAt_V {A : Around} {s : Shared} {y x : V} {u v : Value} (ry : RelV y u) (rx : RelV x v) (fy : flatV y = true) (fx : flatV x = true) : SeqAt.EqAt A s u v (eqV y x) := by
  cases y with
  | non =>
    cases ry
    cases x with
    | non => cases rx; exact SeqAt.EqAt.same _
    | bl b => cases rx; exact SeqAt.EqAt.none_bool b
    | int b => obtain ⟨t, rfl⟩ := rx; exact SeqAt.EqAt.none_int b t
    | str b => obtain ⟨t, rfl⟩ := rx; exact SeqAt.EqAt.none_str b t
    | _ => exact absurd (show false = true from fx) Bool.false_ne_true
  | bl a =>
    cases ry
    cases x with
    | non => cases rx; exact SeqAt.EqAt.bool_none a
    | bl b => cases rx; exact SeqAt.EqAt.bool_bool a b
    | int b => obtain ⟨t, rfl⟩ := rx; exact SeqAt.EqAt.bool_int a b t
    | str b => obtain ⟨t, rfl⟩ := rx; exact SeqAt.EqAt.bool_str a b t
    | _ => exact absurd (show false = true from fx) Bool.false_ne_true
  | int a =>
    obtain ⟨t', rfl⟩ := ry
    cases x with
    | non => cases rx; exact SeqAt.EqAt.int_none a t'
    | bl b => cases rx; exact SeqAt.EqAt.int_bool a t' b
    | int b => obtain ⟨t, rfl⟩ := rx; exact SeqAt.EqAt.int_int a t' b t
    | str b => obtain ⟨t, rfl⟩ := rx; exact SeqAt.EqAt.int_str a t' b t
    | _ => exact absurd (show false = true from fx) Bool.false_ne_true
  | str a =>
    obtain ⟨t', rfl⟩ := ry
    cases x with
    | non => cases rx; exact SeqAt.EqAt.str_none a t'
    | bl b => cases rx; exact SeqAt.EqAt.str_bool a t' b
    | int b => obtain ⟨t, rfl⟩ := rx; exact SeqAt.EqAt.str_int a t' b t
    | str b => obtain ⟨t, rfl⟩ := rx; exact SeqAt.EqAt.str_str a t' b t
    | _ => exact absurd (show false = true from fx) Bool.false_ne_true
  | _ => exact absurd (show false = true from fy) Bool.false_ne_true
/-- the items' answers, read off the values (a value's own answer does not lean on its token) -/
def eqU (x : V) (u : Value) : Bool := match u with
  | .none => eqV .non x
  | .bool b => eqV (.bl b) x
  | .int i _ => eqV (.int i) x
  | .str z _ => eqV (.str z) x
  | _ => false
theorem eqU_of {x y : V} {u : Value} (r : RelV y u) (f : flatV y = true) : eqU x u = eqV y x := by
  cases y with
  | non => cases r; rfl
  | bl b => cases r; rfl
  | int i => obtain ⟨t, rfl⟩ := r; rfl
  | str z => obtain ⟨t, rfl⟩ := r; rfl
  | _ => exact absurd (show false = true from f) Bool.false_ne_true
theorem any_eqU {x : V} : ∀ {xs : List V} {us : List Value}, Vals xs us → xs.all flatV = true → us.any (eqU x) = xs.any fun y => eqV y x
  | _, _, .nil, _ => rfl
  | y :: xs, u :: us, .cons r t, f => by
    rw [List.all_cons, Bool.and_eq_true] at f
    rw [List.any_cons, List.any_cons, eqU_of r f.1, any_eqU t f.2]
theorem mem_eqAt {A : Around} {s : Shared} {x : V} {v : Value} (rx : RelV x v) (fx : flatV x = true) : ∀ {xs : List V} {us : List Value}, Vals xs us → xs.all flatV = true → ∀ u ∈ us, SeqAt.EqAt A s u v (eqU x u)
  | _, _, .nil, _ => fun u hu => by cases hu
  | y :: xs, u :: us, .cons r t, f => fun u' hu => by
    rw [List.all_cons, Bool.and_eq_true] at f
    rcases List.mem_cons.mp hu with rfl | hu
    · rw [eqU_of r f.1]; exact eqAt_V r rx f.1 fx
    · exact mem_eqAt rx fx t f.2 u' hu
def inV (x : V) (xs : List V) : Bool := xs.any fun y => eqV y x
/-- x in a list or tuple of flat items -/
def rIn (K : PySem.W.Frag) (neg : Bool) : R2 := fun x y H Q => ∃ p xs, y = .ref p ∧ (SqL K H p xs ∨ SqT K H p xs) ∧ flatV x = true ∧ xs.all flatV = true ∧ Q (.bl (if neg then !inV x xs else inV x xs)) H
theorem op_in_seq : OpR X (compareOp .In) (rIn X.K false) := by
  intro pins s σ H x y v u Q I rx ry h
  obtain ⟨p, xs, rfl, hq, fx, fs, q⟩ := h
  cases ry
  rcases hq with hq | hq
  · obtain ⟨its, r, pl, hz⟩ := I.list hq
    refine SeqAt.in_listAt (eqU x) pl.isList (fun w hw => mem_eqAt rx fx r fs w (by simpa using hw)) ⟨.bl _, H, I, rfl, ?_⟩
    rw [show its.toArray.any (eqU x) = its.any (eqU x) by simp, any_eqU r fs]
    exact q
  · obtain ⟨its, r, pl, hz⟩ := I.tuple hq
    refine SeqAt.in_tupleAt (eqU x) pl (fun w hw => mem_eqAt rx fx r fs w (by simpa using hw)) ⟨.bl _, H, I, rfl, ?_⟩
    rw [show its.toArray.any (eqU x) = its.any (eqU x) by simp, any_eqU r fs]
    exact q
/-! ### len, list(x), tuple(x) of any list or tuple that is read -/
theorem call_len_seq : CallR X (.builtin "len") (fun xs H Q => ∃ p ys, xs = [.ref p] ∧ (SqL X.K H p ys ∨ SqT X.K H p ys) ∧ Q (.int ys.length) H) := by
  intro pins s σ H xs us Q I r h
  obtain ⟨p, ys, rfl, hq, q⟩ := h
  obtain ⟨u, rfl, rx⟩ := vals1 r
  cases rx
  have hn := line63
  rcases hq with hq | hq
  · obtain ⟨its, r', pl, hz⟩ := I.list hq
    have hlen := r'.length
    exact Calls.call_len_list pl.isList (by simp only [List.size_toArray] <;> omega) ⟨.int ys.length, H, I.tok _, ⟨s.toks + 1, by rw [List.size_toArray, hlen]⟩, q⟩
  · obtain ⟨its, r', pl, hz⟩ := I.tuple hq
    have hlen := r'.length
    exact len_tuple pl (by simp only [List.size_toArray] <;> omega) ⟨.int ys.length, H, I.tok _, ⟨s.toks + 1, by rw [List.size_toArray, hlen]⟩, q⟩
theorem call_tuple_of : CallR X (.type "tuple") (fun xs H Q => ∃ p ys, xs = [.ref p] ∧ ((SqL X.K H p ys ∧ ∀ l, H l = none → Q (.ref l) (upd H l (.tup ys))) ∨ (SqT X.K H p ys ∧ Q (.ref p) H))) := by
  intro pins s σ H xs us Q I r h
  obtain ⟨p, ys, rfl, h⟩ := h
  obtain ⟨u, rfl, rx⟩ := vals1 r
  cases rx
  rcases h with ⟨hq, q⟩ | ⟨hq, q⟩
  · obtain ⟨its, r', pl, hz⟩ := I.list hq
    have hlen := r'.length
    refine call_tuple_list pl.isList (fun h' kp => ?_) (by simp only [List.size_toArray] <;> omega)
    have I1 : Inv X pins σ H { s with heap := h' } := I.kept (t' := s.toks) kp
    have I2 : Inv X pins σ (upd H h'.objs.size (.tup ys)) { s with heap := h'.push { cls := .type "tuple", data := .seq its.toArray } } :=
      I1.laid (t' := s.toks) (fun b o e => Heap.get?_push_of_some _ e) (Nat.le_refl _) (show ObjOk X.prog X.w _ _ _ (.tup ys) from ⟨hz, its, r', IsTupD.new _ _⟩)
    exact ⟨.ref h'.objs.size, _, I2, rfl, q _ (I1.hok.fresh (Nat.le_refl _))⟩
  · obtain ⟨its, r', pl, hz⟩ := I.tuple hq
    exact call_tuple_same pl ⟨.ref p, H, I, rfl, q⟩

/-! ### the call of a builtin's method: o.m(..) -/
/-- the value is of that builtin type -/
def tyV (K : PySem.W.Frag) (T : String) (x : V) (H : Hp) : Prop := match x with
  | .str _ => T = "str"
  | .int _ => T = "int"
  | .ref p => (T = "list" ∧ ∃ xs, SqL K H p xs) ∨ (T = "tuple" ∧ ∃ o, K.lookup p = some o ∧ o.cls = .type "tuple" ∧ o.dict = none) ∨
      (T = "dict" ∧ ((∃ kvs, H p = some (.dK kvs)) ∨ ∃ kvs, H p = some (.dT kvs))) ∨ (T = "set" ∧ ∃ S n, H p = some (.set S n))
  | _ => False
theorem tyV_is {pins : List (Addr × Obj)} {σ : St} {H : Hp} {s : Shared} {T : String} {x : V} {v : Value} (I : Inv X pins σ H s) (r : RelV x v) (ty : tyV X.K T x H) :
    s.TypeIs v T ∧ ∀ a, v = .ref a → ∃ ob, s.heap.get? a = some ob ∧ ob.dict = none := by
  cases x with
  | str z =>
    obtain ⟨t, rfl⟩ := r
    cases (show T = "str" from ty)
    exact ⟨typeIs_str s z t, fun _ e => nomatch e⟩
  | int i =>
    obtain ⟨t, rfl⟩ := r
    cases (show T = "int" from ty)
    exact ⟨typeIs_int s i t, fun _ e => nomatch e⟩
  | ref p =>
    cases r
    rcases ty with ⟨rfl, xs, hq⟩ | ⟨rfl, o, hk, hc, hd⟩ | ⟨rfl, hk⟩ | ⟨rfl, S, n, hk⟩
    · obtain ⟨its, _, pl, _⟩ := I.list hq
      refine ⟨pl.isList.typeIs, fun a e => ?_⟩
      cases e
      obtain ⟨o, n, e, c, hd, _⟩ := pl
      exact ⟨o, e, hd⟩
    · refine ⟨⟨o, I.kIn p o hk, hc⟩, fun a e => ?_⟩
      cases e
      exact ⟨o, I.kIn _ o hk, hd⟩
    · have z : ∃ o, s.heap.get? p = some o ∧ o.ExactDict := by
        rcases hk with ⟨kvs, hk⟩ | ⟨kvs, hk⟩
        · obtain ⟨_, _, _, _, o, _, _, e, ex, _⟩ := I.hok p _ hk
          exact ⟨o, e, ex⟩
        · obtain ⟨_, _, _, _, o, _, _, e, ex, _⟩ := I.hok p _ hk
          exact ⟨o, e, ex⟩
      obtain ⟨o, e, ex⟩ := z
      refine ⟨⟨o, e, ex.1⟩, fun a e2 => ?_⟩
      cases e2
      exact ⟨o, e, ex.2.1⟩
    · obtain ⟨o, _, _, _, e, ex, _⟩ := I.hok p _ hk
      refine ⟨⟨o, e, ex.1⟩, fun a e2 => ?_⟩
      cases e2
      exact ⟨o, e, ex.2.1⟩
  | _ => exact False.elim ty
def tBM0 (K : PySem.W.Frag) (T : String) (r : V → List V → Hp → VK → Prop) (to : TE) : TE := fun σ H Q => to σ H fun x H1 => tyV K T x H1 ∧ r x [] H1 Q
def tBM (K : PySem.W.Frag) (T : String) (r : V → List V → Hp → VK → Prop) (to : TE) (t : TA) : TE := fun σ H Q => to σ H fun x H1 => tyV K T x H1 ∧ t σ H1 fun xs H2 => r x xs H2 Q
variable {o e : Expr} {es : List Expr} {to : TE} {t : TA} {name : Str} {apos cpos : Pos} {T id : String} {r : V → List V → Hp → VK → Prop}
theorem pe_bm0 (pa : PlainAttrs T) (slot : Slot T name id) (hty : typeOf (.builtin id) = pure (.type "method_descriptor")) (hm : MtR X id r) (ho : PE X o to)
    (hbase : attributeBase o name X.env (eval o X.env) = eval o X.env := by rfl) (hline : (apos.endLine == cpos.line) = true := by rfl) : PE X (.Call (.Attribute o name apos) [] [] cpos) (tBM0 X.K T r to) := by
  intro pins s σ H Q I h
  refine wpAny_Call_method0_late hbase hline (thn (ho pins s σ H _ I h) fun v s1 ⟨x, H1, I1, r1, ty, q1⟩ => ?_)
  obtain ⟨h1, h2⟩ := tyV_is I1 r1 ty
  exact ⟨T, id, pa, slot, hty, h1, h2, Calls.callWith_builtin rfl (PySem.evalArgs_none (hm pins s1 σ H1 x [] v [] Q I1 r1 .nil q1))⟩
theorem pe_bm (pa : PlainAttrs T) (slot : Slot T name id) (hty : typeOf (.builtin id) = pure (.type "method_descriptor")) (hm : MtR X id r) (ho : PE X o to) (ha : PA X (e :: es) t)
    (hbase : attributeBase o name X.env (eval o X.env) = eval o X.env := by rfl)
    (hfew : ((backTo cpos (starEach (e :: es) X.env)).all (fun x => !x.1) && (backToKw cpos (keywordEach [] X.env)).all (fun x => x.1.isSome)
      && decide ((e :: es).length + ([] : List Keyword).length + (if ([] : List Keyword).isEmpty then 0 else 1) < 30)) = true := by rfl)
    (hline : (apos.endLine == cpos.line) = true := by rfl) (hs : starEach (e :: es) X.env = (false, eval e X.env) :: starEach es X.env := by rfl) (hplain : (backTo cpos (starEach es X.env)).any (·.1) = false := by rfl) :
    PE X (.Call (.Attribute o name apos) (e :: es) [] cpos) (tBM X.K T r to t) := by
  intro pins s σ H Q I h
  refine wpAny_Call_method_late hbase hfew hline rfl (thn (ho pins s σ H _ I h) fun v s1 ⟨x, H1, I1, r1, ty, q1⟩ => ?_)
  obtain ⟨h1, h2⟩ := tyV_is I1 r1 ty
  refine ⟨T, id, pa, slot, hty, h1, h2, ?_⟩
  have hA := ha cpos pins s1 σ H1 _ I1 q1
  rw [hs] at hA ⊢
  refine Calls.callWith_builtin (by show (false || (backTo cpos (starEach es X.env)).any (·.1)) = false; rw [hplain] <;> rfl) (Calls.evalArgs_plain ?_)
  exact thn hA fun us s2 ⟨vs, H2, I2, r2, q2⟩ => hm pins s2 σ H2 x vs v us Q I2 r1 r2 q2
/- xs.append(e), list.index on a module's tuple .. are MtR facts of 06m -/
end
end L2

namespace L2
open PySem PySem.Spec PyProof.Rows

def MtM (X : Cx) (id : String) (r : V → List V → Hp → VK → Prop) : Prop :=
  ∀ (pins : List (Addr × Obj)) (s : Shared) (σ : St) (H : Hp) (x : V) (xs : List V) (v : Value) (us : List Value) (Q : VK), Inv X pins σ H s → RelV x v → Vals xs us → r x xs H Q →
    wpAny (model X.prog X.w) X.A (call (.builtin id) (v :: us)) (EP X pins σ Q) X.xe s

/-! ### lists of values -/
theorem Vals.one : ∀ {x : V} {us : List Value}, Vals [x] us → ∃ u, us = [u] ∧ RelV x u
  | _, _, .cons r .nil => ⟨_, rfl, r⟩
theorem Vals.zero : ∀ {us : List Value}, Vals [] us → us = []
  | _, .nil => rfl
theorem Vals.dropLast {xs : List V} {us : List Value} (h : Vals xs us) : Vals xs.dropLast us.dropLast := by
  induction h with
  | nil => exact .nil
  | cons r t ih =>
    cases t with
    | nil => exact .nil
    | cons q t' => exact .cons r ih
theorem Vals.reverse {xs : List V} {us : List Value} (h : Vals xs us) : Vals xs.reverse us.reverse := by
  induction h with
  | nil => exact .nil
  | cons r t ih => rw [List.reverse_cons, List.reverse_cons]; exact Vals.append ih (.cons r .nil)
theorem erase_last {α : Type} (l : List α) : l.eraseIdx (l.length - 1) = l.dropLast := by
  induction l with
  | nil => rfl
  | cons a r ih =>
    cases r with
    | nil => rfl
    | cons b r =>
      have e : (a :: b :: r).length - 1 = ((b :: r).length - 1) + 1 := by
        rfl
      rw [e, List.eraseIdx_cons_succ, ih]
      all_goals rfl
section
variable {X : Cx} {pins : List (Addr × Obj)} {σ : St} {H : Hp} {s : Shared} {l b : Addr} {xs ys zs : List V}

/-! ### the two steps: a tracked list is rewritten, a new list is laid -/
theorem Inv.lset {its its' : List Value} {n : Nat} {f : Array Value → Array Value} {t' : Nat} (I : Inv X pins σ H s) (hH : H l = some (.lst xs))
    (e : s.heap.get? l = some { cls := .type "list", data := .seq its.toArray n }) (hf : f its.toArray = its'.toArray) (hv : Vals ys its') (hz : ys.length ≤ sizeLine) :
    Inv X pins σ (upd H l (.lst ys)) { s with heap := s.heap.update l (Obj.mapSeq f), toks := t' } := by
  have q := PySem.IsL.update e f
  rw [hf] at q
  refine I.write (x := l) (e := l) (by rw [hH]; exact trivial) (.inl rfl) (fun b' u hb hu => (Heap.get?_update_other s.heap (Obj.mapSeq f) (Ne.symm hb)).trans hu) ⟨_, q⟩ ?_
  exact ⟨hz, its', _, hv, q⟩
theorem Inv.lnew {its : List Value} {t' : Nat} (I : Inv X pins σ H s) (hv : Vals ys its) (hz : ys.length ≤ sizeLine) :
    Inv X pins σ (upd H s.heap.objs.size (.lst ys)) { s with heap := s.heap.push { cls := .type "list", data := .seq its.toArray }, toks := t' } :=
  I.laid (fun _ _ q => Heap.get?_push_of_some _ q) (Nat.le_refl _) ⟨hz, its, 0, hv, Heap.get?_push_size _ rfl⟩
theorem Inv.fresh (I : Inv X pins σ H s) : H s.heap.objs.size = none := I.hok.fresh (Nat.le_refl _)
theorem Inv.lstM (I : Inv X pins σ H s) (hH : H l = some (.lst xs)) : xs.length ≤ sizeLine ∧ ∃ (its : List Value) (n : Nat), Vals xs its ∧ xs.length = its.length ∧ s.heap.get? l = some { cls := .type "list", data := .seq its.toArray n } := by
  obtain ⟨z, its, n, r, e⟩ := I.hok l _ hH
  exact ⟨z, its, n, r, r.length, e⟩

end

section
variable {X : Cx}

/-! ### methods -/
def rAppend : V → List V → Hp → VK → Prop := fun x vs H Q => ∃ l xs y, x = .ref l ∧ vs = [y] ∧ H l = some (.lst xs) ∧ xs.length < sizeLine ∧ Q .non (upd H l (.lst (xs ++ [y])))
theorem mt_append : MtM X "list.append" rAppend := by
  intro pins s σ H x vs v us Q I rx rv h
  obtain ⟨l, xs, y, rfl, rfl, hH, hz, q⟩ := h
  cases rx
  obtain ⟨u, rfl, ru⟩ := rv.one
  obtain ⟨z, its, n, r, hl, e⟩ := I.lstM hH
  refine call_meets F.slot_list_append ⟨_, e, rfl⟩ F.entry_list_append (F.args_list_append_2 _ _) (PySem.list_append l its.toArray n u (by rw [List.size_toArray]; omega)) ⟨e, ?_⟩
  refine ⟨.non, _, I.lset (its' := its ++ [u]) hH e (by simp) (r.append (.cons ru .nil)) ?_, rfl, q⟩
  rw [List.length_append, List.length_singleton]
  omega

def rPop : V → List V → Hp → VK → Prop := fun x vs H Q => ∃ l xs y, x = .ref l ∧ vs = [] ∧ H l = some (.lst xs) ∧ xs[xs.length - 1]? = some y ∧ Q y (upd H l (.lst xs.dropLast))
theorem mt_pop : MtM X "list.pop" rPop := by
  intro pins s σ H x vs v us Q I rx rv h
  obtain ⟨l, xs, y, rfl, rfl, hH, hy, q⟩ := h
  cases rx
  have hus := rv.zero
  subst hus
  obtain ⟨z, its, n, r, hl, e⟩ := I.lstM hH
  obtain ⟨u, hu, ru⟩ := r.get hy
  have hy' : its.toArray[its.toArray.size - 1]? = some u := by
    show its.toArray[its.length - 1]? = some u
    rw [← Array.getElem?_toList, ← hl]
    exact hu
  refine call_meets F.slot_list_pop ⟨_, e, rfl⟩ F.entry_list_pop (F.args_list_pop_1 _) (MeetsSeq.list_pop_last l its.toArray n u hy' (by rw [List.size_toArray]; omega)) ⟨e, ?_⟩
  refine ⟨y, _, I.lset (its' := its.dropLast) hH e ?_ r.dropLast ?_, ru, q⟩
  · show its.toArray.eraseIdxIfInBounds (its.toArray.size - 1) = its.dropLast.toArray
    rw [List.size_toArray, List.eraseIdxIfInBounds_toArray, erase_last]
  · rw [List.length_dropLast]
    omega

/-! ### list + list, list += list, list * int -/
def rCat : R2 := fun x y H Q => ∃ l b xs zs, x = .ref l ∧ y = .ref b ∧ H l = some (.lst xs) ∧ H b = some (.lst zs) ∧ xs.length + zs.length ≤ sizeLine ∧ ∀ p, H p = none → Q (.ref p) (upd H p (.lst (xs ++ zs)))
theorem op_cat : OpR X (binaryOp .Add) rCat := by
  intro pins s σ H x y v u Q I rx ry h
  obtain ⟨l, b, xs, zs, rfl, rfl, hH, hB, hz, q⟩ := h
  cases rx
  cases ry
  obtain ⟨z, its, n, r, hl, e⟩ := I.lstM hH
  obtain ⟨z2, its2, n2, r2, hl2, e2⟩ := I.lstM hB
  refine PySem.P.add_list e e2 ?_ (by rw [List.size_toArray, List.size_toArray]; omega)
  have ea : its.toArray ++ its2.toArray = (its ++ its2).toArray := by simp
  rw [ea]
  exact ⟨.ref _, _, I.lnew (t' := s.toks) (r.append r2) (by rw [List.length_append]; omega), rfl, q _ I.fresh⟩
/-! ### del xs[i] -/
end

/-! ### xs[a:b] = ys -/
section
variable {prog : Program} {w : World} {A : Around} {E : Value → Shared → Prop} {s : Shared}
end

section
variable {X : Cx}
end
end L2

namespace Att
open PySem PySem.W PySem.Calls PyProof.Rows

/-! ### the script -/
theorem ints_of_wellAll {P : Params} {h : Heap} : ∀ (ns : List Int) (vs : List Value), WellAll P h vs (ns.map WData.int) → IntsAre vs ns := by
  intro ns
  induction ns with
  | nil =>
    intro vs w
    rw [List.map_nil] at w
    cases w
    exact .nil
  | cons n ns ih =>
    intro vs w
    rw [List.map_cons] at w
    cases w with
    | cons a b =>
      cases a
      exact .cons _ _ (ih _ b)

theorem script_of {l : OpenLaw} {n : Nat} (hn : l.most = some n) {P : Params} {h : Heap} {args : List WData} {vals : List Value}
    (hpre : l.row.toRowW.claim.pre args = true) (hwl : WellAll P h vals args) :
    ∃ a vs ns, vals = [Value.ref a] ∧ args = [WData.list (ns.map WData.int)] ∧ h.get? a = some { cls := .type "list", data := .seq vs.toArray } ∧ IntsAre vs ns ∧ ns.length ≤ n := by
  have hsh : WShape.hasAll [] args [.list .int] = true := (pre_splitW hpre).1
  have hc : l.pre.holds [] { args := args } = true := (pre_splitW hpre).2
  obtain ⟨d, r, rfl, h1, h2⟩ := hasAllW_cons hsh
  obtain rfl := hasAllW_nil h2
  obtain ⟨xs, rfl, h3⟩ := hasW_list h1
  obtain ⟨ns, rfl⟩ := items_int h3
  have hlen : ns.length ≤ n := by
    unfold OpenLaw.pre at hc
    have h4 : (WTm.not (.lt (.lit (.int (n : Int))) (.len (.arg 0)))).holds [] { args := [.list (ns.map .int)] } = true := by
      have h4 := (holds_andW hc).1
      rw [hn] at h4
      exact h4
    have h5 := condW_of h4 (w_not (w_lt w_lit (w_len_list (w_arg rfl))))
    rw [List.length_map] at h5
    refine Nat.le_of_not_lt fun q => ?_
    have q' : (n : Int) < ((ns.length : Nat) : Int) := by omega
    first
      | (rw [decide_eq_true q'] at h5; exact absurd h5 (by decide))
      | (simp at h5; omega)
  cases hwl with
  | cons w1 w2 =>
    cases w2
    cases w1 with
    | list ho hall => exact ⟨_, _, ns, rfl, rfl, ho, ints_of_wellAll ns _ hall, hlen⟩

theorem post_true (l : OpenLaw) (args : List WData) : l.row.toRowW.claim.post args (.bool true) args = true :=
  postW_of (r := l.row.toRowW) (X := (true == true))
    (show WShape.has [] (.bool true) .bool = true by first | rfl | decide | simp [WShape.has, WShape.arms, WShape.armsAll])
    (show (WTm.eq .res (.lit (.bool true))).value [] { args := args, res := some (.bool true), after := args } = some (.bool (true == true)) from w_eq_bool (w_res rfl) w_lit) rfl

/-! ### the attachment: holds_open's last premise (the goal 'hc' behind k_head) from a wpAny of the law's body -/
/-- the same from a codeAny of the CALL (for a layer whose function contracts speak of calls) -/
theorem attach_call {l : OpenLaw} {n : Nat} {q : Program} {loose : List Str} {XP : (Str → Option Value) → Heap → Prop} {YP : World → Heap → Prop} {d : DefRec}
    (hn : l.most = some n) (hdf : d.params.defaults = [])
    (call : ∀ (w : World) (s₀ s₁ : Shared) (mg mb : Str → Option Value) (fa : Addr) (o : Obj) (pm cd doc : Value) (a : Addr) (vs : List Value) (ns : List Int),
      Ground q loose [] XP w s₀ mg mb s₁.heap → YP w s₁.heap →
      s₁.heap.get? fa = some o → o.data = .func (docDef d.name d.params d.body d.scope pm cd doc) → s₁.heap.CodeRec cd d.name → mg d.name = some (.ref fa) →
      s₁.heap.get? a = some { cls := .type "list", data := .seq vs.toArray } → IntsAre vs ns → ns.length ≤ n → s₁.gens = #[] →
      codeAny (model l.prog w) callerA (.call (.ref fa) ⟨[.ref a], []⟩) (fun r s' => r = .ok (.ret (.bool true)) ∧ OldK s₁.heap s'.heap ∧ s'.os = s₁.os ∧ AllBare s'.gens) s₁) :
    WalkO q loose XP YP l.row.toRowW d [] (fun f vs => PySem.call f vs) := by
  intro w s₀ s₁ mg mb G Y fa o pm cd doc dV kV ho hd hcd hD hmg hg args vals as hpre hlay hrd hwl hlo
  obtain rfl : dV = .none := Dflts.none hD hdf
  obtain rfl : kV = .none := Dflts.noKw hD
  obtain ⟨a, vs, ns, rfl, rfl, hobj, hints, hlen⟩ := script_of hn hpre hwl
  refine enter_call (codeAny_mono (call w s₀ s₁ mg mb fa o pm cd doc a vs ns G Y ho (fd_plain hd) hcd hmg hobj hints hlen hg) fun r s' hq => ?_)
  obtain ⟨rfl, h2, h3, h4⟩ := hq
  exact ⟨.inl ⟨.bool true, .bool true, [], rfl, fun _ => rfl, .bool true, post_true l _, fun _ => ⟨List.Pairwise.nil, fun _ hm => (nomatch hm)⟩⟩, h2, h3, h4⟩

/-! ### rules over ANY heap (no ledger) from facts about the written part K: the library's own take a ledger (News) for what they write -/
section
variable {prog : Program} {w : World} {A : Around} {E : Value → Shared → Prop} {s : Shared} {K : Frag}

/-! the whole heap as the ledger: makes every rule that writes through a ledger a rule over any heap -/
def ledger (h : Heap) (L d : Addr) : List (Addr × Obj) := (List.range h.objs.size).filterMap fun a => if a = L ∨ a = d then none else (h.get? a).map fun o => (a, o)
end
end Att

namespace L2
open PySem PySem.Spec PyProof.Rows

theorem vals_ints : ∀ {vs : List Value} {ns : List Int}, IntsAre vs ns → Vals (ns.map V.int) vs
  | _, _, .nil => .nil
  | _, _, .cons n t h => .cons ⟨t, rfl⟩ (vals_ints h)

/-- nothing is tracked but the script, known to the object (or it is an object of the module) -/
def Only (H : Hp) : Prop := ∀ b, H b = none ∨ ∃ o xs, H b = some (.frz o (.lst xs))

/-- THE HEAD: the law's promise, at the heap behind the top. F, the promise of the law's def, may use that base is part of the heap (so K.In base, base.Ns mainGlobals mg stand in Mod) -/
theorem law_call {P : Program} {w : World} {K : PySem.W.Frag} {mg mb : Str → Option Value} {CX : CXT} {k : Nat} {fa a : Addr} {fd : FuncData} {x : Str} {sp : Sp} {s₁ : Shared} {vs : List Value} {ns : List Int}
    (KX : K.In s₁.heap) (hns : s₁.heap.Ns mainGlobals mg) (hb : s₁.heap.Ns builtinsNs mb) (hbb : ∀ x : Str, x ≠ "__name__" → mb x = bootBuiltins x) (hlim : s₁.heap.NoLimit) (hg : s₁.gens = #[])
    (ha : s₁.heap.get? a = some { cls := .type "list", data := .seq vs.toArray }) (hi : IntsAre vs ns) (hl : ns.length ≤ sizeLine) (hr : Room k callerA)
    (F : ∀ base : Heap, K.In base → base.Ns mainGlobals mg → FnOk P w K mg base CX k fa fd [x] sp) (hbind : ∀ (s : Shared) (u : Value), BindsTo s fd ⟨[u], []⟩ [(x, u)])
    (hsp : ∀ H : Hp, Only H → SqL K H a (ns.map V.int) → sp [.ref a] H (fun v _ => v = .bl true) fun _ _ _ => False)
    (hCX : ∀ H e s', CX [] H s₁ (fun _ _ _ => False) e s' → False) :
    codeAny (model P w) callerA (.call (.ref fa) ⟨[.ref a], []⟩) (fun r s' => r = .ok (.ret (.bool true)) ∧ OldK s₁.heap s'.heap ∧ s'.os = s₁.os ∧ AllBare s'.gens) s₁ := by
  have rv := vals_ints hi
  have lenV := hi.length
  -- from an abstract heap in which nothing but the script may be tracked
  have core : ∀ H : Hp, Only H → SqL K H a (ns.map V.int) → HOk P w H s₁.heap → (∀ b, H b ≠ none → b = a) → (H a ≠ none → K.lookup a = none) →
      codeAny (model P w) callerA (.call (.ref fa) ⟨[.ref a], []⟩) (fun r s' => r = .ok (.ret (.bool true)) ∧ OldK s₁.heap s'.heap ∧ s'.os = s₁.os ∧ AllBare s'.gens) s₁ := by
    intro H hO hS hok hA hK
    have base_of : ∀ {b : Addr} {o : Obj}, s₁.heap.get? b = some o → H b = none → (hidT s₁.heap H).get? b = some o := fun e n => hidT_get e n
    have noA : ∀ {b : Addr} {o : Obj} {es : Array DictEntry} {ep : Nat}, s₁.heap.get? b = some o → o.data = .dict es ep → H b = none := fun {b o es ep} e d => by
      cases q : H b with
      | none => rfl
      | some u =>
        have e' : b = a := hA b (by rw [q]; simp)
        subst e'
        rw [ha] at e; cases e
        have d' : Data.seq vs.toArray _ = Data.dict es ep := d
        cases d'
    have nsK : ∀ {b : Addr} {m : Str → Option Value}, s₁.heap.Ns b m → (hidT s₁.heap H).Ns b m := fun {b m} ⟨o, es, ep, e, d, r⟩ => ⟨o, es, ep, base_of e (noA e d), d, r⟩
    have hKb : K.In (hidT s₁.heap H) := fun b o e => base_of (KX b o e) (by
      cases q : H b with
      | none => rfl
      | some u =>
        have e' : b = a := hA b (by rw [q]; simp)
        subst e'
        rw [hK (by rw [q]; simp)] at e; cases e)
    have hM : Mod K mg (hidT s₁.heap H) := ⟨hKb, nsK hns, ⟨mb, nsK hb, hbb⟩, let ⟨mc, h1, h2⟩ := hlim; ⟨mc, nsK h1, h2⟩⟩
    have e0 : Env0 P w K mg (hidT s₁.heap H) callerA [] s₁ H := ⟨rfl, hM, fun b o e => of_hidT e, Nat.le_of_eq (hidT_size _ _), trivial, fun b hb => absurd (show b ∈ ([] : List Addr) from hb) (by simp), hok, .of_eq hg⟩
    refine codeAny_mono ((F _ hKb (nsK hns)).run callerA [] s₁ H ⟨[.ref a], []⟩ [.ref a] [.ref a] _ _ hr e0 (hbind s₁ (.ref a)) (.cons rfl .nil) (hsp H hO hS)) fun r s' h => ?_
    cases r with
    | error e => exact (hCX H e s' h).elim
    | ok fl =>
      cases fl with
      | next => exact False.elim h
      | brk => exact False.elim h
      | cont => exact False.elim h
      | ret u =>
        obtain ⟨v, H', os, bare, un, hok', r', q⟩ := h
        have q' : v = .bl true := q
        subst q'
        obtain rfl : u = Value.bool true := r'
        refine ⟨rfl, OldK.of_keep fun b o e => ?_, os, bare⟩
        cases q : H b with
        | none => exact un.keep b o e q (by intro z; exact absurd (show b ∈ ([] : List Addr) from z) (by simp)) (by simp)
        | some u =>
          rcases hO b with z | ⟨ob, xs, z⟩
          · rw [q] at z; cases z
          · have z2 := un.frzs b ob _ z
            obtain ⟨e1, _⟩ := hok b _ z
            obtain ⟨e2, _⟩ := hok' b _ z2
            rw [e] at e1; cases e1
            exact e2
  cases hk : K.lookup a with
  | some o =>
    -- the script is one of the module's own objects
    have e := KX a o hk
    rw [ha] at e
    cases e
    refine core (fun _ => none) (fun _ => .inl rfl) (.inr ⟨_, vs.toArray, _, hk, rfl, rfl, rfl, by rw [List.size_toArray, lenV]; exact hl, by simpa using rv⟩) (fun b u z => by have z' : (none : Option HO) = some u := z; cases z') (fun b z => absurd rfl z) fun z => absurd rfl z
  | none =>
    refine core (fun b => if b = a then some (.frz { cls := .type "list", data := .seq vs.toArray } (.lst (ns.map V.int))) else none) (fun b => ?_) (.inl (.inr ⟨{ cls := .type "list", data := .seq vs.toArray }, if_pos rfl⟩)) (fun b u z => ?_) (fun b z => ?_) fun _ => hk
    · by_cases hb : b = a
      · exact .inr ⟨_, _, if_pos hb⟩
      · exact .inl (if_neg hb)
    · by_cases hb : b = a
      · have z' := (if_pos hb).symm.trans z
        cases z'
        subst hb
        exact ⟨ha, by rw [List.length_map]; exact hl, vs, _, rv, ha⟩
      · have z' := (if_neg hb).symm.trans z
        cases z'
    · by_cases hb : b = a
      · exact hb
      · exact absurd (if_neg hb) z
end L2

namespace L2
open PySem PySem.Spec PyProof.Rows

/-- the goal that k_head leaves (case hc), from the law's promise. F gives the function object fd (K's own) once, then the promise over every base -/
theorem walk_of {l : PySem.W.OpenLaw} {n k : Nat} {q : Program} {loose : List Str} {XP : (Str → Option Value) → Heap → Prop} {YP : World → Heap → Prop} {d : DefRec} {K : Params → PySem.W.Frag} {CX : World → CXT} {sp : World → Sp} {x : Str}
    (hn : l.most = some n) (hn2 : n ≤ sizeLine) (hdf : d.params.defaults = []) (hr : Room k callerA)
    (hY : ∀ (w : World) (h : Heap), YP w h → (K w.params).In h)
    (F : ∀ (w : World) (mg : Str → Option Value) (fa : Addr) (h : Heap), (K w.params).In h → h.Ns mainGlobals mg → mg d.name = some (.ref fa) →
      ∃ fd : FuncData, (∀ (s : Shared) (u : Value), BindsTo s fd ⟨[u], []⟩ [(x, u)]) ∧
        ∀ base : Heap, (K w.params).In base → base.Ns mainGlobals mg → FnOk l.prog w (K w.params) mg base (CX w) k fa fd [x] (sp w))
    (hsp : ∀ (w : World) (H : Hp) (a : Addr) (ns : List Int), ns.length ≤ n → Only H → SqL (K w.params) H a (ns.map V.int) → sp w [.ref a] H (fun v _ => v = .bl true) fun _ _ _ => False)
    (hCX : ∀ (w : World) (H : Hp) (s : Shared) (e : Value) (s' : Shared), CX w [] H s (fun _ _ _ => False) e s' → False) :
    PySem.W.WalkO q loose XP YP l.row.toRowW d [] (fun f vs => PySem.call f vs) := by
  refine Att.attach_call hn hdf fun w s₀ s₁ mg mb fa o pm cd doc a vs ns G Y ho hd hcd hmg hobj hints hlen hg => ?_
  have KX := hY w _ Y
  obtain ⟨fd, hb, hF⟩ := F w mg fa _ KX G.T.g hmg
  exact law_call KX G.T.g G.T.b G.T.builtins G.T.nolimit hg hobj hints (Nat.le_trans hlen hn2) hr hF hb (fun H hO hS => hsp w H a ns hlen hO hS) fun H e s' => hCX w H s₁ e s'
end L2

/- THE LAST THEOREM (shape; LID, My.* are yours):
   My.Adr: a structure of the addresses that your layer names (classes, functions); My.Txt K t: a structure (Prop) of the equations over K;
   My.txt_mk : {K} {implicit addresses ..} (e1 : nsIn K mainGlobals "law" = some (some (.ref f))) (e2 : K.lookup f = some ⟨oc, od, .func (fnOf "law" "law" params body scope dV kV doc pm an cdv ct), sl⟩) (e3 : codeIn K cdv "law" = true) .. : ∃ t, My.Txt K t

set_option maxRecDepth 100000 in
set_option maxHeartbeats 0 in
theorem PySem.Challenge.cw_LID_holds : PySem.Challenge.rw_LID.Holds := by
  w_on; o_law; k_head; (case hw => w_witness2)
  k_fill
  refine L2.walk_of (l := PySem.Challenge.rw_LID) (n := 63) (k := 40) (x := "script") (CX := fun w => ..) (sp := fun _ => My.sp_law) rfl (by decide) rfl ⟨rfl, by decide, by decide⟩ (fun w h Y => PySem.W.kIn_of Y) ?F ?S ?C
  case F =>
    intro w mg fa h KX G hmg
    have T : ∃ t, My.Txt (L2.KOf KX) t := by
      dsimp only [L2.KOf]                          -- K must stand as «<heap const> w.params» for k_is
      refine' My.txt_mk ?e1 ?e2 ?e3 ..
      (case e1 => PySem.W.k_is)                    -- in the order: a name -> its address -> its object -> its parts
      (case e2 => PySem.W.k_is)
      ..
    obtain ⟨t, T⟩ := T
    have e0 := hmg.symm.trans (PySem.W.mg_of KX G T.law)
    cases e0                                       -- fa is the law's own address
    exact ⟨_, fun s u => .of_eq rfl, fun base kb nb => My.law_fn T kb nb⟩     -- if «.of_eq rfl» comes too early: refine' ⟨_, ?b, fun base kb nb => My.law_fn T kb nb⟩; exact fun s u => .of_eq rfl
  case S => exact fun w H a ns hl hO hS => ..
  case C => exact ..
(the tactic k_is has no namespace: write k_is) -/

/-! SHORT WORDS over the layer: a def of the text, its body, what a loop and a test want. -/
namespace L2
open PySem PySem.Spec PyProof.Rows

/-! ### the text by places -/
def defArgs (s : Stmt) : Arguments := match s with
  | .FunctionDef _ a _ _ _ _ _ _ _ _ => a
  | _ => { posonlyargs := [], args := [], vararg := none, kwonlyargs := [], kw_defaults := [], kwarg := none, defaults := [] }
def defBody (s : Stmt) : List Stmt := match s with
  | .FunctionDef _ _ b _ _ _ _ _ _ _ => b
  | _ => []
def defScope (s : Stmt) : Scope := match s with
  | .FunctionDef _ _ _ _ _ _ sc _ _ _ => sc
  | _ => { kind := .function, names := [], isGenerator := false, isCoroutine := false }

/-! ### no exception leaves a def -/
abbrev CX0 : CXT := fun _ _ _ _ _ _ => False
abbrev E0 : XK := fun _ _ _ => False
theorem pass0 {X : Cx} : Passes CX0 X E0 := fun _ _ _ _ _ _ _ h => h.elim

/-! ### a def (or method) of the text as it stands behind the top -/
structure Fun (K : PySem.W.Frag) (x qual : Str) (st : Stmt) (f : Addr) (fd : FuncData) : Prop where
  ex : ∃ (oc : Value) (od : Option Addr) (kV doc pm : Value) (an : Option Addr) (cdv ct : Value) (osl : Array (Option Value)),
    fd = PySem.W.fnOf x qual (defArgs st) (defBody st) (defScope st) .none kV doc pm an cdv ct ∧ K.lookup f = some ⟨oc, od, .func fd, osl⟩ ∧ PySem.W.codeIn K cdv qual = true
  kp : PySem.W.keepIn K (.ref f) = true
section
variable {P : Program} {w : World} {K : PySem.W.Frag} {mg : Str → Option Value} {base : Heap}
/-- THE RULE for a def: its body as a term of rules, and the reading of that term -/
theorem Fun.ok {x qual : Str} {st : Stmt} {f : Addr} {fd : FuncData} {N ps : List Str} {k : Nat} {sp : Sp} (F : Fun K x qual st f fd) (S : FnScope N ps (defScope st)) (len : ∀ vs H Q E, sp vs H Q E → vs.length = ps.length)
    (hbody : ∀ (cdv : Value) (A : Around) (outer : List Env) (s : Shared) (H : Hp) (vs : List V) (Q : VK) (E : XK), Room k (A.deeper (envOfC qual (defScope st) s.heap.objs.size f cdv)) → sp vs H Q E →
      ∃ t, PSs (cxOf CX0 P w K mg base N qual (defScope st) f cdv A outer s H E).nox (defBody st) t ∧ t { nx := fun _ H' => Q .non H', rt := Q } (start N vs) H) : FnOk P w K mg base CX0 (k + 1) f fd ps sp := by
  obtain ⟨oc, od, kV, doc, pm, an, cdv, ct, osl, rfl, lk, hcd⟩ := F.ex
  refine fn_of lk hcd S len fun A outer s H vs Q E hr hsp => ?_
  obtain ⟨t, h, q⟩ := hbody cdv A outer s H vs Q E hr hsp
  exact ⟨t, h.nox, q⟩
/-- how its arguments bind (no defaults): h is «fun _ _ _ _ _ _ us hl => match us, hl with | [_, _], _ => rfl», one _ a parameter -/
theorem Fun.binds {x qual : Str} {st : Stmt} {f : Addr} {fd : FuncData} {ps : List Str} (F : Fun K x qual st f fd)
    (h : ∀ (kV doc pm : Value) (an : Option Addr) (cdv ct : Value) (us : List Value), us.length = ps.length → bindArgs (PySem.W.fnOf x qual (defArgs st) (defBody st) (defScope st) .none kV doc pm an cdv ct) ⟨us, []⟩ = pure (ps.zip us)) : Binds K fd ps [] := by
  obtain ⟨oc, od, kV, doc, pm, an, cdv, ct, osl, rfl, lk, hcd⟩ := F.ex
  exact .all (h kV doc pm an cdv ct)
theorem fun_mk {x qual : Str} {st : Stmt} {f : Addr} {oc : Value} {od an : Option Addr} {osl : Array (Option Value)} {kV doc pm cdv ct : Value} (l : K.lookup f = some ⟨oc, od, .func (PySem.W.fnOf x qual (defArgs st) (defBody st) (defScope st) .none kV doc pm an cdv ct), osl⟩)
    (c : PySem.W.codeIn K cdv qual = true) (k : PySem.W.keepIn K (.ref f) = true) : Fun K x qual st f (PySem.W.fnOf x qual (defArgs st) (defBody st) (defScope st) .none kV doc pm an cdv ct) := ⟨⟨oc, od, kV, doc, pm, an, cdv, ct, osl, rfl, l, c⟩, k⟩
end
theorem hu_of {A : Around} {k : Nat} (hr : Room k A) : A.units + 1 < cLine := Nat.lt_of_le_of_lt (Nat.add_le_add_left (by decide : 1 ≤ 64) _) hr.units
theorem small1000 {n : Nat} (h : n ≤ 1000) : n < sizeLine := Nat.lt_of_le_of_lt h (by decide)

/-! ### expressions in short: the name that stands in the i-th slot -/
section
variable {X : Cx}
theorem pv (i : Nat) {x : Str} {pos : Pos} (hN : X.N[i]? = some x := by rfl) (hv : Vis X.env.scope x := by first | exact Or.inl rfl | exact Or.inr (Or.inl rfl) | exact Or.inr (Or.inr rfl)) (hd : (x == ("__debug__" : Str)) = false := by decide)
    (hcd : (x == ("__classdict__" : Str)) = false := by decide) : PE X (.Name x pos) (tVar i) := pe_var hN hv hd hcd
end

/-! ### tests -/
theorem iteF {A B : Prop} (h : B) : if false = true then A else B := by
  rw [if_neg Bool.false_ne_true]
  exact h
theorem ite2 {c A B : Prop} [Decidable c] (h1 : c → A) (h2 : ¬ c → B) : if c then A else B := by
  by_cases h : c
  · rw [if_pos h]
    exact h1 h
  · rw [if_neg h]
    exact h2 h
theorem iteNS {c A B : Prop} [Decidable c] (hc : c) (h : B) : if (!decide c) = true then A else B := by
  rw [decide_eq_true hc]
  exact iteF h

/-! ### heaps -/
/-- all that was tracked is as it was -/
def Same (H H' : Hp) : Prop := ∀ b o, H b = some o → H' b = some o
theorem Same.refl (H : Hp) : Same H H := fun _ _ h => h
theorem Same.trans {H H1 H2 : Hp} (a : Same H H1) (b : Same H1 H2) : Same H H2 := fun c o h => b c o (a c o h)
theorem Same.free {H H' : Hp} (e : Same H H') {l : Addr} (h : H' l = Option.none) : H l = Option.none := by
  cases q : H l with
  | none => rfl
  | some o =>
    rw [e l o q] at h
    cases h
theorem Same.seq {K : PySem.W.Frag} {H H' : Hp} {a : Addr} {xs : List V} (e : Same H H') (h : SqL K H a xs) : SqL K H' a xs := by
  rcases h with (h | ⟨o, h⟩) | h
  · exact .inl (.inl (e _ _ h))
  · exact .inl (.inr ⟨o, e _ _ h⟩)
  · exact .inr h

/-! ### a dict's pairs: keys that differ -/
section
variable {κ : Type} [DecidableEq κ]
theorem valV_not {kvs : List (κ × V)} {k : κ} (h : valV kvs k = none) : ¬ k ∈ kvs.map (·.1) := by
  intro m
  obtain ⟨p, hp, e⟩ := List.mem_map.mp m
  have q : (kvs.any fun kv => decide (kv.1 = k)) = true := List.any_eq_true.mpr ⟨p, hp, decide_eq_true e⟩
  rw [valV_any, h] at q
  exact absurd q (by simp)
theorem valV_in {kvs : List (κ × V)} {k : κ} {v : V} (h : valV kvs k = some v) : k ∈ kvs.map (·.1) := by
  have q : (kvs.any fun kv => decide (kv.1 = k)) = true := by
    rw [valV_any, h]
    all_goals rfl
  obtain ⟨p, hp, e⟩ := List.any_eq_true.mp q
  exact List.mem_map.mpr ⟨p, hp, of_decide_eq_true e⟩
theorem nd_snoc : ∀ {l : List κ} {k : κ}, l.Nodup → ¬ k ∈ l → (l ++ [k]).Nodup
  | [], k, _, _ => by simp
  | a :: r, k, h, hk => by
    obtain ⟨h1, h2⟩ := List.nodup_cons.mp h
    show (a :: (r ++ [k])).Nodup
    refine List.nodup_cons.mpr ⟨fun m => ?_, nd_snoc h2 fun m => hk (List.mem_cons.mpr (Or.inr m))⟩
    rcases List.mem_append.mp m with q | q
    · exact h1 q
    · exact hk (List.mem_cons.mpr (Or.inl (List.mem_singleton.mp q).symm))
theorem nd_putK {kvs : List (κ × V)} {k : κ} (v : V) (hn : (kvs.map (·.1)).Nodup) (h : valV kvs k = none) : ((putK kvs k v).map (·.1)).Nodup := by
  rw [putK_new v h, List.map_append]
  exact nd_snoc hn (valV_not h)
end
end L2
set_option maxHeartbeats 4000000
namespace L2
open PySem PySem.Spec PyProof.Rows
/-! ### how arguments bind, by their number -/
theorem len_cons {α : Type} {n : Nat} {us : List α} (h : us.length = n + 1) : ∃ u r, us = u :: r ∧ r.length = n := by
  cases us with
  | nil => cases h
  | cons u r => exact ⟨u, r, rfl, Nat.succ.inj h⟩
section
variable {K : PySem.W.Frag} {x qual : Str} {st : Stmt} {f : Addr} {fd : FuncData} {p1 p2 p3 p4 p5 : Str}
theorem Fun.b1 (F : Fun K x qual st f fd) (h : ∀ (kV doc pm : Value) (an : Option Addr) (cdv ct u1 : Value), bindArgs (PySem.W.fnOf x qual (defArgs st) (defBody st) (defScope st) .none kV doc pm an cdv ct) ⟨[u1], []⟩ = pure [(p1, u1)]) : Binds K fd [p1] [] := by
  refine F.binds fun kV doc pm an cdv ct us h0 => ?_
  obtain ⟨u1, r1, rfl, h1⟩ := len_cons (n := 0) h0
  cases List.length_eq_zero_iff.mp h1
  exact h kV doc pm an cdv ct u1
theorem Fun.b2 (F : Fun K x qual st f fd) (h : ∀ (kV doc pm : Value) (an : Option Addr) (cdv ct u1 u2 : Value), bindArgs (PySem.W.fnOf x qual (defArgs st) (defBody st) (defScope st) .none kV doc pm an cdv ct) ⟨[u1, u2], []⟩ = pure [(p1, u1), (p2, u2)]) : Binds K fd [p1, p2] [] := by
  refine F.binds fun kV doc pm an cdv ct us h0 => ?_
  obtain ⟨u1, r1, rfl, h1⟩ := len_cons (n := 1) h0
  obtain ⟨u2, r2, rfl, h2⟩ := len_cons (n := 0) h1
  cases List.length_eq_zero_iff.mp h2
  exact h kV doc pm an cdv ct u1 u2
theorem Fun.b3 (F : Fun K x qual st f fd) (h : ∀ (kV doc pm : Value) (an : Option Addr) (cdv ct u1 u2 u3 : Value), bindArgs (PySem.W.fnOf x qual (defArgs st) (defBody st) (defScope st) .none kV doc pm an cdv ct) ⟨[u1, u2, u3], []⟩ = pure [(p1, u1), (p2, u2), (p3, u3)]) : Binds K fd [p1, p2, p3] [] := by
  refine F.binds fun kV doc pm an cdv ct us h0 => ?_
  obtain ⟨u1, r1, rfl, h1⟩ := len_cons (n := 2) h0
  obtain ⟨u2, r2, rfl, h2⟩ := len_cons (n := 1) h1
  obtain ⟨u3, r3, rfl, h3⟩ := len_cons (n := 0) h2
  cases List.length_eq_zero_iff.mp h3
  exact h kV doc pm an cdv ct u1 u2 u3
theorem Fun.b4 (F : Fun K x qual st f fd) (h : ∀ (kV doc pm : Value) (an : Option Addr) (cdv ct u1 u2 u3 u4 : Value), bindArgs (PySem.W.fnOf x qual (defArgs st) (defBody st) (defScope st) .none kV doc pm an cdv ct) ⟨[u1, u2, u3, u4], []⟩ = pure [(p1, u1), (p2, u2), (p3, u3), (p4, u4)]) : Binds K fd [p1, p2, p3, p4] [] := by
  refine F.binds fun kV doc pm an cdv ct us h0 => ?_
  obtain ⟨u1, r1, rfl, h1⟩ := len_cons (n := 3) h0
  obtain ⟨u2, r2, rfl, h2⟩ := len_cons (n := 2) h1
  obtain ⟨u3, r3, rfl, h3⟩ := len_cons (n := 1) h2
  obtain ⟨u4, r4, rfl, h4⟩ := len_cons (n := 0) h3
  cases List.length_eq_zero_iff.mp h4
  exact h kV doc pm an cdv ct u1 u2 u3 u4
theorem Fun.b5 (F : Fun K x qual st f fd) (h : ∀ (kV doc pm : Value) (an : Option Addr) (cdv ct u1 u2 u3 u4 u5 : Value), bindArgs (PySem.W.fnOf x qual (defArgs st) (defBody st) (defScope st) .none kV doc pm an cdv ct) ⟨[u1, u2, u3, u4, u5], []⟩ = pure [(p1, u1), (p2, u2), (p3, u3), (p4, u4), (p5, u5)]) : Binds K fd [p1, p2, p3, p4, p5] [] := by
  refine F.binds fun kV doc pm an cdv ct us h0 => ?_
  obtain ⟨u1, r1, rfl, h1⟩ := len_cons (n := 4) h0
  obtain ⟨u2, r2, rfl, h2⟩ := len_cons (n := 3) h1
  obtain ⟨u3, r3, rfl, h3⟩ := len_cons (n := 2) h2
  obtain ⟨u4, r4, rfl, h4⟩ := len_cons (n := 1) h3
  obtain ⟨u5, r5, rfl, h5⟩ := len_cons (n := 0) h4
  cases List.length_eq_zero_iff.mp h5
  exact h kV doc pm an cdv ct u1 u2 u3 u4 u5
end
end L2
namespace L2
open PySem PySem.Spec PyProof.Rows

/-! ### what a block closes over -/
def clOf (env : Env) (names : List (Str × NameKind)) : List (Str × Addr) :=
  names.foldl (fun cs y => if y.2 == NameKind.free then (y.1, (env.cells.lookup y.1).getD 0) :: cs else cs) []
theorem clFold {env : Env} : ∀ (names : List (Str × NameKind)) (cs : List (Str × Addr)), (∀ y ∈ names, y.2 = .free → ∃ c, env.cells.lookup y.1 = some c) →
    (forIn names cs fun (y : Str × NameKind) (r : List (Str × Addr)) => (if y.2 == NameKind.free then (do let a ← cellOf env y.1; pure (ForInStep.yield ((y.1, a) :: r))) else pure (ForInStep.yield r) : Sem (ForInStep (List (Str × Addr))))) =
      pure (names.foldl (fun cs y => if y.2 == NameKind.free then (y.1, (env.cells.lookup y.1).getD 0) :: cs else cs) cs)
  | [], cs, _ => rfl
  | (n, k) :: r, cs, h => by
    have ih := fun cs' => clFold (env := env) r cs' fun y hy => h y (List.mem_cons_of_mem _ hy)
    rw [List.forIn_cons, List.foldl_cons]
    by_cases hk : k = .free
    · subst hk
      obtain ⟨c, hc⟩ := h (n, .free) List.mem_cons_self rfl
      have e : cellOf env n = pure c := by unfold cellOf; rw [hc]
      simp only [beq_self_eq_true, if_true, e, pure_bind, hc, Option.getD_some]
      exact ih _
    · have hb : (k == NameKind.free) = false := by simpa using hk
      simp only [hb, Bool.false_eq_true, if_false, pure_bind]
      exact ih _
theorem closure_of {scope : Scope} {env : Env} (h : ∀ y ∈ scope.names, y.2 = .free → ∃ c, env.cells.lookup y.1 = some c) : closureFor scope env = pure (clOf env scope.names) := by
  unfold closureFor
  have e := clFold (env := env) scope.names [] h
  simp only [] at e ⊢
  refine Eq.trans ?_ (congrArg (fun m : Sem (List (Str × Addr)) => m >>= fun cs => pure cs) e)
  rfl
theorem cl_get {env : Env} {x : Str} {c : Addr} : ∀ (names : List (Str × NameKind)) (cs : List (Str × Addr)), (∀ y ∈ names, y.2 = .free → ∃ c, env.cells.lookup y.1 = some c) →
    (names.foldl (fun cs y => if y.2 == NameKind.free then (y.1, (env.cells.lookup y.1).getD 0) :: cs else cs) cs).lookup x = some c → cs.lookup x = some c ∨ env.cells.lookup x = some c
  | [], _, _, e => .inl e
  | (n, k) :: r, cs, h, e => by
    rw [List.foldl_cons] at e
    have ih := cl_get r _ (fun y hy => h y (List.mem_cons_of_mem _ hy)) e
    rcases ih with q | q
    · by_cases hk : k = .free
      · subst hk
        obtain ⟨c', hc⟩ := h (n, .free) List.mem_cons_self rfl
        simp only [beq_self_eq_true, if_true, hc, Option.getD_some, List.lookup_cons] at q
        cases hx : x == n with
        | true =>
          rw [hx] at q
          have : x = n := by simpa using hx
          subst this
          simp only [Option.some.injEq] at q
          subst q
          exact .inr hc
        | false =>
          rw [hx] at q
          exact .inl q
      · have hb : (k == NameKind.free) = false := by simpa using hk
        simp only [hb, Bool.false_eq_true, if_false] at q
        exact .inl q
    · exact .inr q
theorem cl_has {env : Env} {x : Str} : ∀ (names : List (Str × NameKind)) (cs : List (Str × Addr)), ((x, NameKind.free) ∈ names ∨ ∃ c, cs.lookup x = some c) →
    ∃ c, (names.foldl (fun cs y => if y.2 == NameKind.free then (y.1, (env.cells.lookup y.1).getD 0) :: cs else cs) cs).lookup x = some c
  | [], _, e => by rcases e with e | e; exact absurd e (by simp); exact e
  | (n, k) :: r, cs, e => by
    rw [List.foldl_cons]
    refine cl_has r _ ?_
    rcases e with e | ⟨c, e⟩
    · rcases List.mem_cons.mp e with z | z
      · cases z
        right
        simp only [beq_self_eq_true, if_true, List.lookup_cons]
        exact ⟨_, rfl⟩
      · exact .inl z
    · right
      by_cases hk : k = .free
      · subst hk
        simp only [beq_self_eq_true, if_true, List.lookup_cons]
        cases hx : x == n with
        | true => exact ⟨_, rfl⟩
        | false => exact ⟨c, e⟩
      · have hb : (k == NameKind.free) = false := by simpa using hk
        simp only [hb, Bool.false_eq_true, if_false]
        exact ⟨c, e⟩
/-- a name that the block holds as a cell or as free was free there -/
theorem relabel_free {env : Env} {x : Str} : ∀ {names : List (Str × NameKind)}, (∀ y ∈ names, y.2 ≠ .cell) →
    ((names.map fun (n, k) => if (k == NameKind.free && env.scope.kind == .function && env.kindOf n == some .cell) then (n, NameKind.cell) else (n, k)).lookup x = some .cell ∨
     (names.map fun (n, k) => if (k == NameKind.free && env.scope.kind == .function && env.kindOf n == some .cell) then (n, NameKind.cell) else (n, k)).lookup x = some .free) → (x, NameKind.free) ∈ names
  | [], _, h => by simp at h
  | (n, k) :: r, hc, h => by
    have ih := @relabel_free env x r fun y hy => hc y (List.mem_cons_of_mem _ hy)
    have hk := hc (n, k) List.mem_cons_self
    simp only [List.map_cons] at h
    by_cases cc : (k == NameKind.free && env.scope.kind == .function && env.kindOf n == some .cell) = true
    · rw [if_pos cc] at h
      have kf : k = .free := by
        simp only [Bool.and_eq_true, beq_iff_eq] at cc
        exact cc.1.1
      subst kf
      simp only [List.lookup_cons] at h
      cases hx : x == n with
      | true =>
        have : x = n := by simpa using hx
        subst this
        exact List.mem_cons_self
      | false => rw [hx] at h; exact List.mem_cons_of_mem _ (ih h)
    · rw [if_neg cc] at h
      simp only [List.lookup_cons] at h
      cases hx : x == n with
      | true =>
        rw [hx] at h
        have : x = n := by simpa using hx
        subst this
        rcases h with h | h
        · simp only [Option.some.injEq] at h
          exact absurd h hk
        · simp only [Option.some.injEq] at h
          subst h
          exact List.mem_cons_self
      | false => rw [hx] at h; exact List.mem_cons_of_mem _ (ih h)

/-- the tests of a clause, as one tree -/
abbrev testsT (ifs : List Expr) (env : Env) : Sem Bool := forIn ifs true fun c r =>
  if r = true then do
    let ok ← isTrue c env (eval c env)
    pure (ForInStep.yield ok)
  else pure (ForInStep.yield r)
/-! ### the tests of a clause -/
def PIfs (X : Cx) (ifs : List Expr) (t : TT) : Prop :=
  ∀ (pins : List (Addr × Obj)) (s : Shared) (σ : St) (H : Hp) (Q : Bool → Hp → Prop), Inv X pins σ H s → t σ H Q →
    wpAny (model X.prog X.w) X.A (testsT ifs X.env) (TP X pins σ Q) X.xe s
def tYes : TT := fun _ H Q => Q true H
theorem pf_nil {X : Cx} : PIfs X [] tYes := fun _ _ _ H _ I h => wpAny_tests_nil ⟨H, I, h⟩
theorem pf_one {X : Cx} {c : Expr} {t : TT} (h : PT X c t) : PIfs X [c] t := fun pins s σ H Q I q => wpAny_tests_one (h pins s σ H Q I q)

abbrev Nope : Value → Shared → Prop := fun _ _ => False
/-- the loop of a comprehension, with the step ahead of the store; nothing is raised -/
theorem comp_loop {prog : Program} {w : World} {A : Around} {R : Result → Shared → Prop} {s0 : Shared} {elt target iter : Expr} {ifs : List Expr} {scope : Scope} {pos : Pos} {it acc : Value} {env : Env} (W : Nat → Shared → Prop)
    (one : ∀ k t, W k t → wpAny (model prog w) A (pyNext it) (fun r t1 => match r with
      | none => R (.ok .next) t1
      | some v => wpAny (model prog w) A (letOwnedTupleGo target it v) (fun _ t2 => wpAny (model prog w) A (assign target env v) (fun _ t3 => wpAny (model prog w) A (testsT ifs env) (fun ok t4 =>
          if ok = true then wpAny (model prog w) A (eval elt env) (fun x t5 => wpAny (model prog w) A (call (.builtin "list.append") [acc, x]) (fun _ t6 => ∃ j, j < k ∧ W j t6) Nope t5) Nope t4
          else ∃ j, j < k ∧ W j t4) Nope t3) Nope t2) Nope t1) Nope t)
    (k0 : Nat) (h0 : W k0 s0) : codeAny (model prog w) A (.compLoop (.ListComp elt [⟨target, iter, ifs, 0⟩] scope pos) 0 it acc env) R s0 := by
  refine codeAny_loop rfl W (fun k t hW => ?_) k0 h0
  refine wpAny_noted (m := compTurn (.ListComp elt [⟨target, iter, ifs, 0⟩] scope pos) 0 it acc env) ?_
  have no : ∀ {P : Prop} {e : Value} {t : Shared}, Nope e t → P := fun z => z.elim
  rw [compTurn_list]
  refine wpAny_bind (wpAny_standAt (wpAny_bind (wpAny_mono (one k t hW) (fun r t1 q1 => ?_) fun _ _ => no)))
  match r with
  | none => exact wpAny_pure q1
  | some v =>
    refine wpAny_bind (wpAny_mono q1 (fun _ t2 q2 => wpAny_bind (wpAny_mono q2 (fun _ t3 q3 => wpAny_bind (wpAny_mono q3 (fun ok t4 q4 => ?_) fun _ _ => no)) fun _ _ => no)) fun _ _ => no)
    match ok with
    | false => exact wpAny_pure ⟨rfl, q4⟩
    | true =>
      rw [if_pos rfl] at q4
      refine wpAny_bind (wpAny_bind (wpAny_mono q4 (fun x t5 q5 => wpAny_bind (wpAny_mono q5 (fun _ t6 q6 => ?_) fun _ _ => no)) fun _ _ => no))
      exact wpAny_pure (wpAny_pure ⟨rfl, q6⟩)

/-! ### the block of a comprehension -/
/-- the block's names' values at its start: none, or those of the def's names -/
def entV (ix : List (Option Nat)) (σ : St) : St := ix.map fun o => o.bind fun j => σ[j]?.join
theorem entV_get {ix : List (Option Nat)} {σ : St} {i : Nat} {v : V} (h : (entV ix σ)[i]? = some (some v)) : ∃ j, ix[i]? = some (some j) ∧ σ[j]? = some (some v) := by
  unfold entV at h
  rw [List.getElem?_map] at h
  cases e : ix[i]? with
  | none => rw [e] at h; cases h
  | some o =>
    rw [e] at h
    cases o with
    | none => cases h
    | some j =>
      have h : some (σ[j]?.join) = some (some v) := h
      refine ⟨j, rfl, ?_⟩
      cases q : σ[j]? with
      | none => rw [q] at h; cases h
      | some z => rw [q] at h; cases h; rfl
/-- N': the block's names; ix: for each of them where it stands among the def's names (or none: a target) -/
def compOk (N : List Str) (sc scope : Scope) (N' : List Str) (ix : List (Option Nat)) : Bool :=
  ix.length == N'.length && (ix.zip N').all (fun p => match p.1 with | none => true | some j => N[j]? == some p.2 && scope.names.lookup p.2 == some NameKind.free) &&
  scope.names.all (fun y => y.2 != NameKind.cell && (y.2 != NameKind.free || sc.names.lookup y.1 == some NameKind.cell || sc.names.lookup y.1 == some NameKind.free) && (y.2 != NameKind.local || scope.names.lookup y.1 == some NameKind.local)) &&
  scope.kind == ScopeKind.function
structure CompOk (N : List Str) (sc scope : Scope) (N' : List Str) (ix : List (Option Nat)) : Prop where
  len : ix.length = N'.length
  at_ : ∀ (i j : Nat) (x : Str), ix[i]? = some (some j) → N'[i]? = some x → N[j]? = some x ∧ scope.names.lookup x = some .free
  nocell : ∀ y ∈ scope.names, y.2 ≠ .cell
  free : ∀ y ∈ scope.names, y.2 = .free → sc.names.lookup y.1 = some .cell ∨ sc.names.lookup y.1 = some .free
  loc : ∀ y ∈ scope.names, y.2 = .local → scope.names.lookup y.1 = some .local
  kind : scope.kind = .function
theorem CompOk.of {N : List Str} {sc scope : Scope} {N' : List Str} {ix : List (Option Nat)} (h : compOk N sc scope N' ix = true) : CompOk N sc scope N' ix := by
  unfold compOk at h
  simp only [Bool.and_eq_true, beq_iff_eq, List.all_eq_true] at h
  obtain ⟨⟨⟨h1, h2⟩, h3⟩, h4⟩ := h
  refine ⟨h1, fun i j x a b => ?_, fun y hy e => ?_, fun y hy e => ?_, fun y hy e => ?_, h4⟩
  · have hm : (some j, x) ∈ ix.zip N' := List.mem_of_getElem? (i := i) (by rw [List.getElem?_zip_eq_some]; exact ⟨a, b⟩)
    have q := h2 _ hm
    simp only [Bool.and_eq_true, beq_iff_eq] at q
    exact q
  · have q := h3 y hy
    simp only [Bool.and_eq_true, bne_iff_ne, ne_eq] at q
    exact q.1.1 e
  · have q := (h3 y hy).1.2
    rw [e] at q
    simpa using q
  · have q := (h3 y hy).2
    rw [e] at q
    simpa using q

/-- the context of the block: its frame at C, entered at s₂, H₂, its iterator's records fp -/
def compCx (X : Cx) (N' : List Str) (scope : Scope) (C : Addr) (s₂ : Shared) (H₂ : Hp) (fp : List Addr) : Cx where
  prog := X.prog
  w := X.w
  K := X.K
  mg := X.mg
  base := X.base
  A := X.A
  N := N'
  s₀ := s₂
  H₀ := H₂
  env := compEnvC scope (clOf X.env scope.names) C X.env
  outer := X.stack
  stack := X.stack
  ex := fp
  fn := fun _ => false
  calm := X.calm
  pn := []
  xe := fun _ _ => False
section
variable {X : Cx} {N' : List Str} {ix : List (Option Nat)} {scope : Scope} {pins : List (Addr × Obj)} {σ : St} {H₂ : Hp} {s₂ : Shared} {fp : List Addr} {C : Addr}
theorem CompOk.cells (S : CompOk X.N X.env.scope scope N' ix) (I : Inv X pins σ H₂ s₂) : ∀ y ∈ scope.names, y.2 = .free → ∃ c, X.env.cells.lookup y.1 = some c := fun y hy e => I.ok.has y.1 (S.free y hy e)
theorem CompOk.get (S : CompOk X.N X.env.scope scope N' ix) (I : Inv X pins σ H₂ s₂) {x : Str} {c : Addr} (h : (clOf X.env scope.names).lookup x = some c) : X.env.cells.lookup x = some c := by
  rcases cl_get scope.names [] (S.cells I) h with q | q
  · exact absurd q (by simp)
  · exact q
theorem compCx_ok (S : CompOk X.N X.env.scope scope N' ix) (I : Inv X pins σ H₂ s₂) (hf : ∀ b ∈ fp, FpOk X pins H₂ b) (hC : s₂.heap.objs.size ≤ C) (hfC : ∀ b ∈ fp, b < s₂.heap.objs.size) : (compCx X N' scope C s₂ H₂ fp).Ok where
  mod := I.ok.mod
  kind := S.kind
  glob := I.ok.glob
  blt := I.ok.blt
  above := hC
  inj := fun x y c a b => I.ok.inj x y c (S.get I a) (S.get I b)
  has := fun x h => cl_has scope.names [] (.inl (relabel_free S.nocell h))
  cab := fun x c h => by cases h
  hd := I.ok.hd
  frames := I.ok.frames
  stk := .inl rfl
  exf := fun b hb => ⟨Nat.ne_of_lt (Nat.lt_of_lt_of_le (hfC b hb) hC), fun x c e => (hf b hb).2.2.2.2.1 x c (S.get I e)⟩
  bs := I.bs
  bsz := Nat.le_trans I.ok.bsz I.sz
  noex := fun b o e hb => by
    rcases (hf b hb).2.2.2.1 with z | z
    · exact I.ok.noex b o e z
    · exact absurd (Nat.lt_of_lt_of_le (Heap.lt_size e) (Nat.le_trans I.ok.bsz z)) (Nat.lt_irrefl _)
  exfs := fun b hb hm => by
    rcases List.mem_cons.mp (I.stkSub b hm) with z | z
    · exact (hf b hb).2.1 z
    · exact (hf b hb).2.2.1 z
  funs := I.stack
  frf := I.stkFree
/-- the block is entered: a list D and its frame C are laid, both untracked -/
theorem comp_start (S : CompOk X.N X.env.scope scope N' ix) (I : Inv X pins σ H₂ s₂) (hf : ∀ b ∈ fp, FpOk X pins H₂ b) (hfC : ∀ b ∈ fp, b < s₂.heap.objs.size) {D : Addr} {h₁ : Heap} {tk : Nat} {m : Str → Option Value} {ob : Obj}
    (hC : s₂.heap.objs.size ≤ C) (hD : s₂.heap.objs.size ≤ D) (hDC : D ≠ C) (old : ∀ b o, s₂.heap.get? b = some o → h₁.get? b = some o) (hn : h₁.Ns C m) (hob : h₁.get? D = some ob) (hd : ∀ v, ob.data ≠ .cell v) :
    Inv (compCx X N' scope C s₂ H₂ fp) [(D, ob)] (entV ix σ) H₂ { s₂ with heap := h₁, toks := tk } := by
  have fr : ∀ a, s₂.heap.objs.size ≤ a → H₂ a = none := fun a ha => I.hok.fresh ha
  have cOf : ∀ x c, (clOf X.env scope.names).lookup x = some c → X.env.cells.lookup x = some c := fun x c e => S.get I e
  refine ⟨compCx_ok S I hf hC hfC, rfl, I.bare, Un.kept old, ⟨m, hn, fun i x v e1 e2 e3 => ?_⟩, fun x c e => ?_, fr C hC, fun x c e => I.freeC x c (cOf x c e), fun p hp => ?_, I.hok.kept old, ?_⟩
  · obtain ⟨j, q1, q2⟩ := entV_get e2
    obtain ⟨n1, n2⟩ := S.at_ i j x q1 e1
    have hm : (x, NameKind.free) ∈ scope.names := PySem.mem_of_lookup n2
    have hv : Vis X.env.scope x := by
      rcases S.free _ hm rfl with z | z
      · exact .inr (.inl z)
      · exact .inr (.inr z)
    obtain ⟨m0, _, hl⟩ := I.loc
    obtain ⟨u, r, l⟩ := hl j x v n1 q2 hv
    refine ⟨u, r, ?_⟩
    have hne : ¬ X.env.kindOf x = some .local := fun z => by
      have z : X.env.scope.names.lookup x = some .local := z
      rcases S.free _ hm rfl with y | y
      · rw [y] at z; cases z
      · rw [y] at z; cases z
    rcases l with ⟨k, _⟩ | ⟨k, c, e, z⟩
    · exact absurd k hne
    · obtain ⟨c', hc'⟩ := cl_has (env := X.env) (x := x) scope.names [] (.inl hm)
      have hc'' := cOf x c' hc'
      rw [e] at hc''
      cases hc''
      have kk : (compCx X N' scope C s₂ H₂ fp).env.kindOf x = some .cell ∨ (compCx X N' scope C s₂ H₂ fp).env.kindOf x = some .free := by
        rcases e3 with y | y | y
        · exfalso
          have : ∀ {names : List (Str × NameKind)}, names.lookup x = some .free →
            (names.map fun (n, k) => if (k == NameKind.free && X.env.scope.kind == .function && X.env.kindOf n == some .cell) then (n, NameKind.cell) else (n, k)).lookup x = some .local → False := by
            intro names
            induction names with
            | nil => intro a; simp at a
            | cons p r ih =>
              obtain ⟨n, k⟩ := p
              intro a b
              simp only [List.map_cons] at b
              simp only [List.lookup_cons] at a
              cases hx : x == n with
              | true =>
                rw [hx] at a
                simp only [Option.some.injEq] at a
                subst a
                split at b
                · simp [List.lookup_cons, hx] at b
                · simp [List.lookup_cons, hx] at b
              | false =>
                rw [hx] at a
                split at b
                · simp only [List.lookup_cons, hx] at b; exact ih a b
                · simp only [List.lookup_cons, hx] at b; exact ih a b
          exact this n2 y
        · exact .inl y
        · exact .inr y
      obtain ⟨oc, ho, hod⟩ := z
      exact .inr ⟨kk, c, hc', oc, old _ _ ho, hod⟩
  · obtain ⟨v, o, ho, hod⟩ := I.cell x c (cOf x c e)
    exact ⟨v, o, old _ _ ho, hod⟩
  · have hp : p ∈ [(D, ob)] := hp
    have e : p = (D, ob) := by simpa using hp
    subst e
    refine ⟨hob, fr D hD, hDC, fun hb => ?_, hd⟩
    have hb : D ∈ frs X.stack := hb
    rcases List.mem_cons.mp (I.stkSub D hb) with z | z
    · exact absurd I.lt (by rw [← z]; exact Nat.not_lt.mpr hD)
    · exact I.nofs hD z
  · show (entV ix σ).length = N'.length
    unfold entV
    rw [List.length_map, S.len]
/-- the block is left: the list is tracked -/
theorem comp_leave (I : Inv X pins σ H₂ s₂) (hf : ∀ b ∈ fp, FpOk X pins H₂ b) {pins' : List (Addr × Obj)} {σ' : St} {H' : Hp} {s' : Shared} {D : Addr} {ys : List V} {its : List Value} (hC : s₂.heap.objs.size ≤ C) (hD : s₂.heap.objs.size ≤ D)
    (J : Inv (compCx X N' scope C s₂ H₂ fp) pins' σ' H' s') (hn : H' D = none) (hl : s'.heap.PlainList D its.toArray) (r : Vals ys its) (hz : ys.length ≤ sizeLine) : Inv X pins σ (upd H' D (.lst ys)) s' := by
  have sb : Un (frs X.stack) fp H₂ H' s₂.heap s'.heap := J.base
  have nD : ∀ b u, H' b = some u → b ≠ D := fun b u e => ne_of_none e hn
  refine I.call' (ch := fp) J.os ⟨sb.keep, sb.slot, fun b o e n hx => ?_, sb.there, fun b xs e => ?_, fun b o u e => ?_, fun b ps e => ?_⟩ (fun b u e => ?_) J.bare (fun b hb => ?_)
  · rw [upd_ne (Nat.ne_of_lt (Nat.lt_of_lt_of_le (Heap.lt_size e) hD))]
    exact sb.free b o e n hx
  · have q := sb.tups b xs e
    rw [upd_ne (nD b _ q)]; exact q
  · have q := sb.frzs b o u e
    rw [upd_ne (nD b _ q)]; exact q
  · obtain ⟨more, q⟩ := sb.tbls b ps e
    exact ⟨more, by rw [upd_ne (nD b _ q)]; exact q⟩
  · by_cases hb : b = D
    · subst hb
      rw [upd_same] at e
      cases e
      obtain ⟨n, hg⟩ := hl
      exact ⟨hz, its, n, r, hg⟩
    · rw [upd_ne hb] at e
      exact (J.hok b u e).stay (fun c v _ q => q) (fun c q => by rw [upd_ne (nD c _ q)]; exact q) fun c xs q => by rw [upd_ne (nD c _ q)]; exact q
  · obtain ⟨_, f1, _, f3, f4, f5⟩ := hf b hb
    exact ⟨f3, f1, f4, f5⟩
end
end L2
namespace L2
open PySem PySem.Spec PyProof.Rows

/-- a comprehension: W is what holds between two turns, ys the items so far -/
def CompW (J : It) (g : TG) (tc : TT) (te : TE) (Kf : List V → Hp → Prop) (σ0 : St) (H1 : Hp) : Prop :=
  ∃ W : Nat → Nat → List V → St → Hp → Prop, (∃ m, W 0 m [] σ0 H1) ∧ ∀ i m ys σ' H', W i m ys σ' H' → ys.length < sizeLine ∧
    ((J.stop i H' ∧ Kf ys H') ∨ (J.go i H' ∧ ∃ N : List V → St → Hp → Prop, (∀ ys' σ2 H2, N ys' σ2 H2 → ∃ m', m' < m ∧ W (i + 1) m' ys' σ2 H2) ∧ ∀ x H'', J.yld i H' x H'' → g x σ' H'' fun σ2 H2 => tc σ2 H2 fun b H3 =>
      if b = true then te σ2 H3 fun y H4 => N (ys ++ [y]) σ2 H4 else N ys σ2 H3))
def tComp (wi : TI) (ix : List (Option Nat)) (g : TG) (tc : TT) (te : TE) : TE := fun σ H Q =>
  wi σ H fun J H1 => CompW J g tc te (fun ys H' => ∀ l, H' l = none → Q (.ref l) (upd H' l (.lst ys))) (entV ix σ) H1

section
variable {X : Cx} {tg elt iter : Expr} {ifs : List Expr} {scope : Scope} {pos : Pos} {N' : List Str} {ix : List (Option Nat)} {wi : TI} {g : TG} {tc : TT} {te : TE}

/-- where the block ends -/
def CompEnd (X : Cx) (pins : List (Addr × Obj)) (σ : St) (Kf : List V → Hp → Prop) (acc : Value) (C : Addr) (s' : Shared) : Prop :=
  ∃ D H' ys, acc = .ref D ∧ H' D = none ∧ Inv X pins σ (upd H' D (.lst ys)) s' ∧ (∃ m, s'.heap.Ns C m) ∧ H' C = none ∧ D ≠ C ∧ C ≠ X.env.locals ∧ X.s₀.heap.objs.size ≤ C ∧ (∀ x c, X.env.cells.lookup x = some c → c ≠ C) ∧ (∀ p ∈ X.pn ++ pins, p.1 ≠ C) ∧ Kf ys H'

theorem comp_core {pins : List (Addr × Obj)} {s₂ : Shared} {σ : St} {H₂ : Hp} {it : Addr} {fp : List Addr} {tn : Nat → Heap → Prop} {J : It} {Kf : List V → Hp → Prop} {RR : Value → Addr → Result → Shared → Prop} {E : Value → Shared → Prop}
    (S : CompOk X.N X.env.scope scope N' ix) (hc : X.calm = true)
    (hg : ∀ C s₂ H₂ fp, PG (compCx X N' scope C s₂ H₂ fp) tg g) (ht : ∀ C s₂ H₂ fp, PIfs (compCx X N' scope C s₂ H₂ fp) ifs tc) (he : ∀ C s₂ H₂ fp, PE (compCx X N' scope C s₂ H₂ fp) elt te)
    (I2 : Inv X pins σ H₂ s₂) (T : Turn X.prog X.w X.K tg J fp it tn) (st2 : tn 0 s₂.heap) (f2 : ∀ b ∈ fp, FpOk X pins H₂ b) (w : CompW J g tc te Kf (entV ix σ) H₂)
    (hR : ∀ acc C s', CompEnd X pins σ Kf acc C s' → RR acc C (.ok .next) s') :
    wpAny (model X.prog X.w) X.A (newList []) (fun acc s₃ => wpAny (model X.prog X.w) X.A (newFunctionEnv scope X.env.globals (clOf X.env scope.names) [] X.env.qual none .none (some X.env)) (fun cenv s₄ =>
      codeAny (model X.prog X.w) X.A (.compStart (.ListComp elt [⟨tg, iter, ifs, 0⟩] scope pos) 0 (.ref it) acc { cenv with scope := relabel scope X.env }) (RR acc cenv.locals) s₄) E s₃) E s₂ := by
  obtain ⟨W, ⟨m0, w0⟩, turn⟩ := w
  refine wpAny_newObj_type (wpAny_newFunctionEnv S.nocell (by intro y hy; simp at hy) (fun h₁ nsN sbN => ?_) S.kind)
  dsimp only at nsN sbN ⊢
  generalize eH : s₂.heap.push { cls := .type "list", dict := none, data := .seq ([] : List Value).toArray } = G2 at nsN sbN ⊢
  have sizeC : G2.objs.size = s₂.heap.objs.size + 1 := by rw [← eH, Heap.size_push]
  have neDC : s₂.heap.objs.size ≠ G2.objs.size := by rw [sizeC]; exact Nat.ne_of_lt (Nat.lt_succ_self _)
  have leC : s₂.heap.objs.size ≤ G2.objs.size := by rw [sizeC]; exact Nat.le_succ _
  have older : ∀ b, b < s₂.heap.objs.size → b ≠ G2.objs.size ∧ b ≠ s₂.heap.objs.size := fun b hb => ⟨by rw [sizeC]; exact Nat.ne_of_lt (Nat.lt_succ_of_lt hb), Nat.ne_of_lt hb⟩
  have keepOld : ∀ b o, s₂.heap.get? b = some o → h₁.get? b = some o := fun b o e => sbN.extBut b o (older b (Heap.lt_size e)).1 (Heap.get?_push_of_some _ (eH ▸ Heap.get?_push_of_some _ e))
  have accNew : h₁.PlainList s₂.heap.objs.size #[] := ⟨_, sbN.extBut _ _ neDC (Heap.get?_push_of_some _ (eH ▸ Heap.get?_push_size _ rfl))⟩
  generalize eC : G2.objs.size = C at *
  generalize eD : s₂.heap.objs.size = D at *
  have hfC : ∀ b ∈ fp, b < s₂.heap.objs.size := fun b hb => by
    obtain ⟨o, e, _⟩ := T.obj 0 _ st2 b hb
    exact Heap.lt_size e
  have hfD : ∀ b ∈ fp, b ≠ D := fun b hb => by have := hfC b hb; rw [eD] at this; exact Nat.ne_of_lt this
  have hfC' : ∀ b ∈ fp, b ≠ C := fun b hb => by have := hfC b hb; rw [eD] at this; exact Nat.ne_of_lt (Nat.lt_of_lt_of_le this leC)
  have geD : s₂.heap.objs.size ≤ D := by rw [eD]; exact Nat.le_refl _
  have geC : s₂.heap.objs.size ≤ C := by rw [eD]; exact leC
  obtain ⟨nn, hob⟩ := id accNew
  have J1 : Inv (compCx X N' scope C s₂ H₂ fp) [] (entV ix σ) H₂ { s₂ with heap := h₁, toks := s₂.toks + ([] : List (Str × Value)).length } :=
    (comp_start S I2 f2 hfC geC geD neDC keepOld nsN hob (fun v z => by cases z)).pins_of (fun p hp => absurd hp (by simp))
  have nfsD : D ∉ frs X.stack := fun hb => by
    rcases List.mem_cons.mp (I2.stkSub D hb) with z | z
    · exact absurd I2.lt (by rw [← z]; exact Nat.not_lt.mpr geD)
    · exact I2.nofs geD z
  have cOf : ∀ x c, (clOf X.env scope.names).lookup x = some c → c ≠ D ∧ c ≠ C := fun x c e => by
    obtain ⟨v, z⟩ := I2.cell x c (S.get I2 e)
    have := z.lt
    rw [eD] at this
    exact ⟨Nat.ne_of_lt this, Nat.ne_of_lt (Nat.lt_of_lt_of_le this leC)⟩
  -- the records may turn, whatever is pinned besides
  have fpk : ∀ {pl : List (Addr × Obj)} {H' : Hp}, (∀ b ∈ fp, H' b = none) → (∀ p ∈ pl, p.1 ∉ fp) → ∀ b ∈ fp, FpOk (compCx X N' scope C s₂ H₂ fp) pl H' b := fun {pl H'} hn hp b hb =>
    ⟨hn b hb, hfC' b hb, fun z => by
        rcases List.mem_cons.mp (I2.stkSub b z) with q | q
        · exact (f2 b hb).2.1 q
        · exact (f2 b hb).2.2.1 q,
      .inl hb, fun x c e => (f2 b hb).2.2.2.2.1 x c (S.get I2 e), fun p hp' z => hp p (by simpa [compCx] using hp') (by rw [z]; exact hb)⟩
  have dpk : ∀ {H' : Hp}, H' D = none → ∀ b ∈ [D], FpOk (compCx X N' scope C s₂ H₂ fp) [] H' b := fun {H'} hn b hb => by
    have e : b = D := by simpa using hb
    subst e
    exact ⟨hn, neDC, nfsD, .inr geD, fun x c e => (cOf x c e).1, fun p hp => absurd hp (by simp [compCx])⟩
  have loop : codeAny (model X.prog X.w) X.A (.compLoop (.ListComp elt [⟨tg, iter, ifs, 0⟩] scope pos) 0 (.ref it) (.ref D) (compEnvC scope (clOf X.env scope.names) C X.env)) (RR (.ref D) C) { s₂ with heap := h₁, toks := s₂.toks + ([] : List (Str × Value)).length } := by
    refine comp_loop (fun n s' => ∃ i ys σ' H' its, Inv (compCx X N' scope C s₂ H₂ fp) [] σ' H' s' ∧ tn i s'.heap ∧ (∀ b ∈ fp, H' b = none) ∧ H' D = none ∧ s'.heap.PlainList D its.toArray ∧ Vals ys its ∧ W i n ys σ' H') ?_ m0
      ⟨0, [], _, H₂, [], J1, T.keep _ _ _ st2 fun b _ o e => keepOld b o e, fun b hb => (f2 b hb).1, I2.hok.fresh geD, accNew, .nil, w0⟩
    rintro n s3 ⟨i, ys, σ3, H3, its, I3, st3, fr3, dn3, pl3, rv3, w3⟩
    obtain ⟨nn3, hob3⟩ := id pl3
    have oD : ∀ b ∈ [D], ∃ o, s3.heap.get? b = some o ∧ ∀ v, o.data ≠ .cell v := fun b hb => by
      have e : b = D := by simpa using hb
      subst e
      exact ⟨_, hob3, fun v z => by cases z⟩
    have I3' : Inv (compCx X N' scope C s₂ H₂ fp) (pinsAt [D] s3.heap) σ3 H3 s3 := by
      have := I3.pinned (dpk dn3) oD
      simpa using this
    have pD : (D, ({ cls := .type "list", data := .seq its.toArray nn3 } : Obj)) ∈ pinsAt [D] s3.heap := mem_pinsAt (by simp) hob3
    have npD : ∀ p ∈ pinsAt [D] s3.heap, p.1 ∉ fp := fun p hp z => by
      have e : p.1 = D := by simpa using (of_pinsAt hp).1
      exact hfD _ z e
    obtain ⟨hys, tt⟩ := turn i n ys σ3 H3 w3
    rcases tt with ⟨stop, qn⟩ | ⟨go, N, hN, step⟩
    · refine wpAny_mono (T.done (compCx X N' scope C s₂ H₂ fp) rfl rfl rfl hc i (pinsAt [D] s3.heap) s3 σ3 H3 (fun _ _ => False) I3' (fpk fr3 npD) st3 stop) (fun r s4 ⟨hr, I4⟩ => ?_) fun _ _ z => z
      subst hr
      have g4 := (I4.pin _ (List.mem_append_right _ pD)).1
      refine hR _ _ _ ⟨D, H3, ys, rfl, dn3, comp_leave I2 f2 geC geD I4 dn3 ⟨nn3, g4⟩ rv3 (Nat.le_of_lt hys), ?_, ?_, neDC, ?_, ?_, ?_, ?_, qn⟩
      · obtain ⟨m, hm, _⟩ := I4.loc
        exact ⟨m, hm⟩
      · exact I4.free
      · exact Nat.ne_of_gt (Nat.lt_of_lt_of_le I2.lt geC)
      · exact Nat.le_trans I2.sz geC
      · intro x c e z
        obtain ⟨v, q⟩ := I2.cell x c e
        exact absurd (Nat.lt_of_lt_of_le q.lt geC) (by rw [z]; exact Nat.lt_irrefl _)
      · intro p hp z
        exact absurd (Nat.lt_of_lt_of_le (Heap.lt_size (I2.pin p hp).1) geC) (by rw [z]; exact Nat.lt_irrefl _)
    · refine wpAny_mono (T.item (compCx X N' scope C s₂ H₂ fp) rfl rfl rfl hc i (pinsAt [D] s3.heap) s3 σ3 H3 (fun _ _ => False) I3' (fpk fr3 npD) st3 go) (fun r s4 ⟨u, hr, h4⟩ => ?_) fun _ _ z => z
      subst hr
      refine wpAny_mono h4 (fun _ s5 ⟨x, H5, I5, r5, y5, st5, fr5⟩ => ?_) fun _ _ z => z
      have I5' := I5.pinned (fpk fr5 npD) (T.obj _ _ st5)
      refine wpAny_mono (hg C s₂ H₂ fp _ s5 σ3 H5 x u _ I5' r5 (step x H5 y5)) (fun _ s6 ⟨σ6, H6, I6, q6⟩ => ?_) fun _ _ z => z
      refine wpAny_mono (ht C s₂ H₂ fp _ s6 σ6 H6 _ I6 q6) (fun b s7 ⟨H7, I7, q7⟩ => ?_) fun _ _ z => z
      have fin : ∀ {s8 : Shared} {σ8 : St} {H8 : Hp}, Inv (compCx X N' scope C s₂ H₂ fp) (pinsAt [D] s3.heap ++ pinsAt fp s5.heap) σ8 H8 s8 → s8.heap.get? D = some { cls := .type "list", data := .seq its.toArray nn3 } ∧ H8 D = none ∧
          tn (i + 1) s8.heap ∧ ∀ b ∈ fp, H8 b = none := fun {s8 σ8 H8} I8 => by
        have q := I8.pin _ (List.mem_append_right _ (List.mem_append_left _ pD))
        refine ⟨q.1, q.2.1, T.keep _ _ _ st5 fun b hb o e => (I8.pin (b, o) (List.mem_append_right _ (List.mem_append_right _ (mem_pinsAt hb e)))).1, fun b hb => ?_⟩
        obtain ⟨o, e, d⟩ := T.obj _ _ st5 b hb
        exact (I8.pin (b, o) (List.mem_append_right _ (List.mem_append_right _ (mem_pinsAt hb e)))).2.1
      cases b with
      | false =>
        obtain ⟨m', hm, w7⟩ := hN _ _ _ q7
        obtain ⟨a1, a2, a3, a4⟩ := fin I7
        exact ⟨m', hm, i + 1, ys, σ6, H7, its, I7.pins_of fun p hp => absurd hp (by simp), a3, a4, a2, ⟨nn3, a1⟩, rv3, w7⟩
      | true =>
        refine wpAny_mono (he C s₂ H₂ fp _ s7 σ6 H7 _ I7 q7) (fun v s8 ⟨y, H8, I8, r8, n8⟩ => ?_) fun _ _ z => z
        obtain ⟨m', hm, w8⟩ := hN _ _ _ n8
        obtain ⟨a1, a2, a3, a4⟩ := fin I8
        have hsz : its.toArray.size ≤ sizeLine := by
          have := rv3.length
          rw [List.size_toArray]
          omega
        refine wpAny_list_append_plain (hsz := hsz) ⟨nn3, a1⟩ fun h9 hl9 hs9 => ?_
        have I9 : Inv (compCx X N' scope C s₂ H₂ fp) [] σ6 H8 { s8 with heap := h9 } :=
          (I8.pins_of (pins' := []) fun p hp => absurd hp (by simp)).turned (t' := s8.toks) (fun b o hb e => (hs9.2 b hb).trans e) a2 neDC (.inr geD) (fun x c e => (cOf x c e).1) fun p hp => absurd hp (by simp [compCx])
        refine ⟨m', hm, i + 1, ys ++ [y], σ6, H8, its ++ [v], I9, T.keep _ _ _ a3 fun b hb o e => (hs9.2 b (hfD b hb)).trans e, a4, a2, ?_, rv3.append (.cons r8 .nil), w8⟩
        have e : (its ++ [v]).toArray = its.toArray.push v := by simp
        rw [e]; exact hl9
  exact codeAny_compStart_list loop (T.self _ 0 _ _ _ (T.keep _ _ _ st2 fun b _ o e => keepOld b o e) loop)

/-- [elt for tg in iter if ..] -/
theorem pe_comp (N' : List Str) (ix : List (Option Nat)) (hi : PI X tg iter wi) (hg : ∀ C s₂ H₂ fp, PG (compCx X N' scope C s₂ H₂ fp) tg g) (ht : ∀ C s₂ H₂ fp, PIfs (compCx X N' scope C s₂ H₂ fp) ifs tc)
    (he : ∀ C s₂ H₂ fp, PE (compCx X N' scope C s₂ H₂ fp) elt te) (S : compOk X.N X.env.scope scope N' ix = true := by rfl) (hc : X.calm = true := by rfl) (hs : ∀ x, foldedSetIterable iter X.env x = pure x := by intro _; rfl) :
    PE X (.ListComp elt [⟨tg, iter, ifs, 0⟩] scope pos) (tComp wi ix g tc te) := by
  intro pins s σ H Q I h
  have S := CompOk.of S
  rw [eval_ListComp]
  refine wpAny_comprehension_free (use := none) (cl := clOf X.env scope.names) rfl hs (closure_of fun y hy e => I.ok.has y.1 (S.free y hy e)) S.kind S.loc (thn (hi pins s σ H _ I h) fun xv s₁ h₁ => thn h₁ fun itv s₂ h₂ => ?_)
  obtain ⟨it, fp, tn, J, H₂, rfl, I2, T, st2, f2, w⟩ := h₂
  refine comp_core (RR := fun acc C => compPost (model X.prog X.w) X.A X.xe none (EP X pins σ Q) acc C) S hc hg ht he I2 T st2 f2 w fun acc C s' ce => ?_
  obtain ⟨D, H', ys, rfl, dn, J', hm, cn, dc, c1, c2, c3, c4, kf⟩ := ce
  obtain ⟨m, hm⟩ := hm
  refine ⟨m, hm, fun h' hs' => ⟨.ref D, _, J'.turned (t' := s'.toks) (fun b o hb e => (hs'.2 b hb).trans e) (by rw [upd_ne dc.symm]; exact cn) c1 (.inr c2) c3 c4, rfl, kf D dn⟩⟩

/-- x = [elt for tg in iter if ..] where the list goes right into its name -/
theorem ps_setC (N' : List Str) (ix : List (Option Nat)) {i : Nat} {x : Str} {pos' spos : Pos} (hN : X.N.Nodup) (hxi : X.N[i]? = some x) (hx : Loc X.env.scope x) (hi : PI X tg iter wi) (hg : ∀ C s₂ H₂ fp, PG (compCx X N' scope C s₂ H₂ fp) tg g) (ht : ∀ C s₂ H₂ fp, PIfs (compCx X N' scope C s₂ H₂ fp) ifs tc)
    (he : ∀ C s₂ H₂ fp, PE (compCx X N' scope C s₂ H₂ fp) elt te) (S : compOk X.N X.env.scope scope N' ix = true := by rfl) (hc : X.calm = true := by rfl) (hs : ∀ x, foldedSetIterable iter X.env x = pure x := by intro _; rfl)
    (hsw : swapsWith (.ListComp elt [⟨tg, iter, ifs, 0⟩] scope pos) (some (.Name x pos')) spos.line X.env = pure true := by rfl) (hf : X.fn x = true ∨ X.env.scope.names.lookup x = some .local := by first | exact .inl rfl | exact .inr rfl | assumption) :
    PS X (.Assign [.Name x pos'] (.ListComp elt [⟨tg, iter, ifs, 0⟩] scope pos) spos) (tAsg (tComp wi ix g tc te) (gName i)) := by
  intro pins s σ H D I h
  have S := CompOk.of S
  rw [exec_Assign_Name_used _ _ _ _ hsw]
  refine wpAny_bind (wpAny_standAt (wpAny_bind ?_))
  show wpAny _ X.A (do let _ ← comprehension (.ListComp elt [⟨tg, iter, ifs, 0⟩] scope pos) scope X.env _ (newList []) false (eval iter X.env) (some (assign (.Name x pos') X.env))) _ _ s
  refine wpAny_bind (wpAny_mono (wpAny_comprehension_free (use := some (assign (.Name x pos') X.env)) (cl := clOf X.env scope.names) (Q := fun _ s' => SP X pins D .next s') rfl hs (closure_of fun y hy e => I.ok.has y.1 (S.free y hy e)) S.kind S.loc
    (thn (hi pins s σ H _ I h) fun xv s₁ h₁ => thn h₁ fun itv s₂ h₂ => ?_)) (fun _ s' hq => wpAny_pure (wpAny_pure hq)) fun _ _ e => e)
  obtain ⟨it, fp, tn, J, H₂, rfl, I2, T, st2, f2, w⟩ := h₂
  refine comp_core (RR := fun acc C => compPost (model X.prog X.w) X.A X.xe (some (assign (.Name x pos') X.env)) (fun _ s' => SP X pins D .next s') acc C) S hc hg ht he I2 T st2 f2 w fun acc C s' ce => ?_
  obtain ⟨D', H', ys, rfl, dn, J', hm, cn, dc, c1, c2, c3, c4, kf⟩ := ce
  obtain ⟨m, hm⟩ := hm
  show wpAny _ X.A (assign (.Name x pos') X.env (.ref D')) _ _ _
  refine wpAny_assign_Name (store_ok2 (v := .ref D') J' hN hxi hx rfl (fun s2 J2 hsb => ?_) hf)
  obtain ⟨a, hsb, ha⟩ := hsb
  have hCa : C ≠ a := by
    rcases ha with z | z
    · rw [z]; exact c1
    · exact (c3 x a z).symm
  refine ⟨m, hm.sameBut hsb hCa, fun h' hs' => ?_⟩
  exact ⟨_, _, J2.turned (t' := s2.toks) (fun b o hb e => (hs'.2 b hb).trans e) (by rw [upd_ne dc.symm]; exact cn) c1 (.inr c2) c3 c4, kf D' dn⟩

/-- over a list that stays -/
theorem comp_list {K : PySem.W.Frag} {a : Addr} {xs : List V} {Kf : List V → Hp → Prop} {σ0 : St} {H1 : Hp} (Pv : Nat → List V → St → Hp → Prop) (hz : xs.length < sizeLine) (h0 : Pv 0 [] σ0 H1) (hb : ∀ i ys σ H, Pv i ys σ H → ys.length ≤ i) (hl : ∀ i ys σ H, i ≤ xs.length → Pv i ys σ H → SqL K H a xs)
    (hs : ∀ i x ys σ H, xs[i]? = some x → Pv i ys σ H → g x σ H fun σ2 H2 => tc σ2 H2 fun b H3 => if b = true then te σ2 H3 fun y H4 => Pv (i + 1) (ys ++ [y]) σ2 H4 else Pv (i + 1) ys σ2 H3) (hd : ∀ ys σ H, Pv xs.length ys σ H → Kf ys H) : CompW (Itl K a) g tc te Kf σ0 H1 := by
  refine ⟨fun i m ys σ H => m = xs.length - i ∧ i ≤ xs.length ∧ Pv i ys σ H, ⟨xs.length, by simp, Nat.zero_le _, h0⟩, ?_⟩
  rintro i m ys σ H ⟨rfl, hi, p⟩
  have q := hl i ys σ H hi p
  refine ⟨Nat.lt_of_le_of_lt (hb _ _ _ _ p) (Nat.lt_of_le_of_lt hi hz), ?_⟩
  by_cases hlt : i < xs.length
  · refine .inr ⟨⟨xs, xs[i], q, by simp [hlt]⟩, Pv (i + 1), fun ys' σ' H' p' => ⟨xs.length - (i + 1), Nat.sub_lt_sub_left hlt (Nat.lt_succ_self i), rfl, hlt, p'⟩, fun x H' y => ?_⟩
    obtain ⟨e, y⟩ := y
    subst e
    exact hs i x ys σ _ (y xs q) p
  · have e : i = xs.length := by omega
    subst e
    exact .inl ⟨⟨xs, q, Nat.le_refl _⟩, hd ys σ H p⟩
theorem comp_tup {K : PySem.W.Frag} {a : Addr} {xs : List V} {Kf : List V → Hp → Prop} {σ0 : St} {H1 : Hp} (Pv : Nat → List V → St → Hp → Prop) (hz : xs.length < sizeLine) (h0 : Pv 0 [] σ0 H1) (hb : ∀ i ys σ H, Pv i ys σ H → ys.length ≤ i) (hl : ∀ i ys σ H, i ≤ xs.length → Pv i ys σ H → SqT K H a xs)
    (hs : ∀ i x ys σ H, xs[i]? = some x → Pv i ys σ H → g x σ H fun σ2 H2 => tc σ2 H2 fun b H3 => if b = true then te σ2 H3 fun y H4 => Pv (i + 1) (ys ++ [y]) σ2 H4 else Pv (i + 1) ys σ2 H3) (hd : ∀ ys σ H, Pv xs.length ys σ H → Kf ys H) : CompW (Itt K a) g tc te Kf σ0 H1 := by
  refine ⟨fun i m ys σ H => m = xs.length - i ∧ i ≤ xs.length ∧ Pv i ys σ H, ⟨xs.length, by simp, Nat.zero_le _, h0⟩, ?_⟩
  rintro i m ys σ H ⟨rfl, hi, p⟩
  have q := hl i ys σ H hi p
  refine ⟨Nat.lt_of_le_of_lt (hb _ _ _ _ p) (Nat.lt_of_le_of_lt hi hz), ?_⟩
  by_cases hlt : i < xs.length
  · refine .inr ⟨⟨xs, xs[i], q, by simp [hlt]⟩, Pv (i + 1), fun ys' σ' H' p' => ⟨xs.length - (i + 1), Nat.sub_lt_sub_left hlt (Nat.lt_succ_self i), rfl, hlt, p'⟩, fun x H' y => ?_⟩
    obtain ⟨e, y⟩ := y
    subst e
    exact hs i x ys σ _ (y xs q) p
  · have e : i = xs.length := by omega
    subst e
    exact .inl ⟨⟨xs, q, Nat.le_refl _⟩, hd ys σ H p⟩
theorem comp_range {lo : Int} {n : Nat} {Kf : List V → Hp → Prop} {σ0 : St} {H1 : Hp} (Pv : Nat → List V → St → Hp → Prop) (hz : n < sizeLine) (h0 : Pv 0 [] σ0 H1) (hb : ∀ i ys σ H, Pv i ys σ H → ys.length ≤ i)
    (hs : ∀ i ys σ H, i < n → Pv i ys σ H → g (.int (lo + i)) σ H fun σ2 H2 => tc σ2 H2 fun b H3 => if b = true then te σ2 H3 fun y H4 => Pv (i + 1) (ys ++ [y]) σ2 H4 else Pv (i + 1) ys σ2 H3) (hd : ∀ ys σ H, Pv n ys σ H → Kf ys H) : CompW (Itr lo n) g tc te Kf σ0 H1 := by
  refine ⟨fun i m ys σ H => m = n - i ∧ i ≤ n ∧ Pv i ys σ H, ⟨n, by simp, Nat.zero_le _, h0⟩, ?_⟩
  rintro i m ys σ H ⟨rfl, hi, p⟩
  refine ⟨Nat.lt_of_le_of_lt (hb _ _ _ _ p) (Nat.lt_of_le_of_lt hi hz), ?_⟩
  by_cases hlt : i < n
  · refine .inr ⟨hlt, Pv (i + 1), fun ys' σ' H' p' => ⟨n - (i + 1), Nat.sub_lt_sub_left hlt (Nat.lt_succ_self i), rfl, hlt, p'⟩, fun x H' y => ?_⟩
    obtain ⟨e, y⟩ := y
    subst e y
    exact hs i ys σ _ hlt p
  · have e : i = n := by omega
    subst e
    exact .inl ⟨Nat.le_refl _, hd ys σ H p⟩
end
end L2
namespace L2
open PySem PySem.Spec PyProof.Rows
theorem revNoLen : typeLookup (.type "list_reverseiterator") "__len__" = pure none := by rw [typeLookup_type, builtinLookup_eq_fast]; kernel_rfl
theorem revHint : typeLookup (.type "list_reverseiterator") "__length_hint__" = pure (some (.builtin "list_reverseiterator.__length_hint__")) := by rw [typeLookup_type, builtinLookup_eq_fast]; kernel_rfl
/-- the new list at S, as the call of list leaves it empty -/
abbrev newL : Obj := { cls := .type "list", data := .seq #[] }
section
variable {prog : Program} {w : World} {A : Around} {E : Value → Shared → Prop} {Q : Value → Shared → Prop} {s : Shared} {it p : Addr} {items : Array Value}
/-- list(it) where it walks the list at p from its end -/
theorem list_of_rev (hh : A.handled = none) (ne : p ≠ it) (hi : s.heap.IsRevIter it p ((items.size : Int) - 1)) (hp : s.heap.IsList p items) (hz : items.size ≤ sizeLine)
    (k : ∀ t got c, (∀ b o, b ≠ it → s.heap.get? b = some o → t.heap.get? b = some o) → t.gens = s.gens → t.os = s.os →
      t.heap.get? s.heap.objs.size = some { cls := .type "list", dict := none, data := .seq got c, slots := #[] } → got.toList = items.toList.reverse → Q (.ref s.heap.objs.size) t) :
    wpAny (model prog w) A (call (.type "list") [.ref it]) Q E s := by
  let W := (Walks.listRev (prog := prog) (w := w) (A := A.in1.in1) hh it p ne items).toS
  have st0 : 0 ≤ items.size ∧ s.heap.IsRevIter it p ((items.size : Int) - 1 - ((0 : Nat) : Int)) ∧ s.heap.IsList p items := ⟨Nat.zero_le _, by simpa using hi, hp⟩
  have itLt : it < s.heap.objs.size := by
    obtain ⟨o, e, _⟩ := hi
    exact Heap.lt_size e
  have pLt : p < s.heap.objs.size := by
    obtain ⟨o, e, _⟩ := hp
    exact Heap.lt_size e
  have fresh : s.heap.objs.size ∉ [it, p] := fun m => by
    rcases List.mem_cons.mp m with z | z
    · exact Nat.lt_irrefl _ (z ▸ itLt)
    · exact Nat.lt_irrefl _ ((List.mem_singleton.mp z) ▸ pLt)
  have neS : s.heap.objs.size ≠ it := fun z => fresh (by rw [z]; exact List.mem_cons_self)
  refine callType_codes (Q₁ := fun o t => o = .ref s.heap.objs.size ∧ t = { s with heap := s.heap.push newL }) F.called_list (F.typeCall_list_1 _) F.entry_list_init (code_list_new _ ⟨rfl, rfl⟩) ?_
  rintro _ _ ⟨rfl, rfl⟩
  have hS : (s.heap.push newL).get? s.heap.objs.size = some newL := Heap.get?_push_size _ rfl
  refine ⟨⟨_, hS, rfl⟩, F.args_list_init_2 _ _, ?_⟩
  -- list.__init__: emptied, then extended
  refine wpAny_bind (m := Builtin.List.listItems (.ref s.heap.objs.size)) (wpAny_bind (wpAny_seqItems hS rfl (wpAny_pure ?_)))
  refine wpAny_bind (m := updateSeq s.heap.objs.size fun _ => #[]) (wpAny_updateSeq hS rfl (wpAny_bind (wpAny_letGo ?_)))
  have hS2 := Heap.get?_update_self (Obj.mapSeq fun _ => (#[] : Array Value)) hS rfl
  have older : ∀ b o, s.heap.get? b = some o → ((s.heap.push newL).update s.heap.objs.size (Obj.mapSeq fun _ => (#[] : Array Value))).get? b = some o := fun b o e =>
    (Heap.get?_update_other _ _ (Nat.ne_of_gt (Heap.lt_size e))).trans (Heap.get?_push_of_some _ e)
  have st1 := W.frame 0 s ((s.heap.push newL).update s.heap.objs.size (Obj.mapSeq fun _ => (#[] : Array Value))) s.toks st0 (Nat.le_refl _) fun b _ o e => older b o e
  have ty : ∀ i t, (fun (i : Nat) (t : Shared) => i ≤ items.size ∧ t.heap.IsRevIter it p ((items.size : Int) - 1 - (i : Int)) ∧ t.heap.IsList p items) i t → t.TypeIs (.ref it) "list_reverseiterator" := fun i t z => z.2.1.typeIs
  unfold Builtin.List.listExtendWith
  refine wpAny_bind (wpAny_typeOf (ty 0 _ st1) ?_)
  have same : Builtin.List.listSameRef (.ref s.heap.objs.size) (.ref it) = false := by simp [Builtin.List.listSameRef, neS]
  rw [if_neg (by rw [same]; decide)]
  refine wpAny_bind (W.self 0 _ _ _ st1 (wpAny_bind (wpAny_holding ?_)))
  unfold Builtin.List.listLengthHint
  refine wpAny_bind (wpAny_specialOf (ty 0 _ st1) revNoLen ?_)
  refine wpAny_bind (m := specialOf (Value.ref it) (Str.ofString "__length_hint__")) (wpAny_specialOf (ty 0 _ st1) revHint ?_)
  generalize hid : ("list_reverseiterator.__length_hint__" : String) = id0
  wp_delta
  rw [show splitId id0 = some ("list_reverseiterator", "__length_hint__") from by subst hid; decide +kernel]
  subst hid
  refine wpAny_bind (wpAny_isInstance (b := true) (ty 0 _ st1) (by rw [isSubtype_type]; kernel_rfl) (wpAny_pure ?_))
  rw [if_neg (by decide)]
  refine wpAny_pure ⟨plainId_quiet F.plain_extend_loop _, codeAny_extend_loopS W hz _ fresh _ items.size 0 _ _ _ rfl (Nat.zero_le _) st1 hS2 (ItemsOf.nil _) fun t got c mv at' its => ⟨rfl, ?_⟩⟩
  refine k t got c (fun b o hb e => mv.heap b o (fun m => ?_) (older b o e)) mv.gens mv.os at' ?_
  · rcases List.mem_cons.mp m with z | z
    · exact absurd (Heap.lt_size e) (by rw [z]; exact Nat.lt_irrefl _)
    · exact hb (List.mem_singleton.mp z)
  · obtain ⟨len, each⟩ := its
    refine List.ext_getElem? fun j => ?_
    by_cases hj : j < items.size
    · have g : got[j]? = some got[j] := Array.getElem?_eq_getElem (by omega)
      rw [List.getElem?_reverse (by simpa using hj), Array.getElem?_toList, Array.getElem?_toList, g, ← each j _ g]
      simp
    · rw [List.getElem?_eq_none (by simp; omega), List.getElem?_eq_none (by simp; omega)]
end
/-- list(reversed(e)), e a list -/
def tListRev (K : PySem.W.Frag) (te : TE) : TE := fun σ H Q => te σ H fun x H1 => ∃ a ys, x = .ref a ∧ SqL K H1 a ys ∧ ∀ l, H1 l = none → Q (.ref l) (upd H1 l (.lst ys.reverse))
theorem pe_listrev {X : Cx} {e : Expr} {te : TE} {p1 p2 pos1 pos2 : Pos} (he : PE X e te) (g1 : Gl X "list") (m1 : X.mg "list" = none) (g2 : Gl X "reversed") (m2 : X.mg "reversed" = none) (hc : X.calm = true := by rfl)
    (hs1 : starEach [.Call (.Name "reversed" p2) [e] [] pos2] X.env = [(false, eval (.Call (.Name "reversed" p2) [e] [] pos2) X.env)] := by rfl) (hs2 : starEach [e] X.env = [(false, eval e X.env)] := by rfl) :
    PE X (.Call (.Name "list" p1) [.Call (.Name "reversed" p2) [e] [] pos2] [] pos1) (tListRev X.K te) := by
  intro pins s σ H Q I h
  refine wpAny_Call_Name_kw (ld_blt I g1 m1 PyProof.Rows.boot_list ?_)
  refine PyProof.Rows.callWith_type1 ?_ hs1 rfl
  rw [hs1]
  refine Calls.spliced_cons (wpAny_Call_Name_kw (ld_blt I g2 m2 PyProof.Rows.boot_reversed ?_))
  refine PyProof.Rows.callWith_type1 ?_ hs2 rfl
  rw [hs2]
  refine Calls.spliced_cons (thn (he pins s σ H _ I h) fun u s1 ⟨x, H1, I1, r1, a, ys, ex, hq, q⟩ => Calls.spliced_nil ?_)
  subst ex
  cases r1
  obtain ⟨its, rv, pl, hz⟩ := I1.list hq
  have il := pl.isList
  refine call_reversed_list il (Calls.spliced_nil ?_)
  have I2 : Inv X pins σ H1 { s1 with heap := s1.heap.push (revObj a ((its.toArray.size : Int) - 1)) } := I1.kept (t' := s1.toks) fun b o e => Heap.get?_push_of_some _ e
  have aLt : a < s1.heap.objs.size := by
    obtain ⟨o, e, _⟩ := il
    exact Heap.lt_size e
  have len := rv.length
  obtain ⟨f0, f1, f2, f3, f4, f5⟩ : FpOk X pins H1 s1.heap.objs.size := I1.fpOk (Nat.le_refl _) (I1.hok.fresh (Nat.le_refl _))
  refine list_of_rev (p := a) (items := its.toArray) (I.ok.hd hc) (Nat.ne_of_lt aLt) ⟨_, Heap.get?_push_size _ rfl, rfl, rfl⟩ (il.at fun o e => Heap.get?_push_of_some _ e) (by rw [List.size_toArray]; omega) ?_
  intro t got c keep gens os at' eg
  obtain ⟨D, eD⟩ : ∃ D, (s1.heap.push (revObj a ((its.toArray.size : Int) - 1))).objs.size = D := ⟨_, rfl⟩
  have hD : (s1.heap.push (revObj a ((its.toArray.size : Int) - 1))).objs.size ≤ D := Nat.le_of_eq eD
  dsimp only at at' ⊢
  rw [eD] at at' ⊢
  have fD : H1 D = none := I2.hok.fresh hD
  have neT : ∀ b u, H1 b = some u → b ≠ s1.heap.objs.size := fun b u e z => by rw [z, f0] at e; cases e
  refine ⟨.ref D, upd H1 D (.lst ys.reverse), I2.call' (ch := [s1.heap.objs.size]) os ⟨fun b o e n _ hx => keep b o (fun z => hx (by simp [z])) e, fun b o e n _ hx => ⟨o.slots, keep b o (fun z => hx (by simp [z])) e⟩, fun b o e n _ => ?_, fun b o e hx => ⟨o, keep b o (fun z => hx (by simp [z])) e⟩, fun b xs e => ?_, fun b o u e => ?_, fun b ps e => ⟨#[], ?_⟩⟩ (fun b u e => ?_) (by rw [gens]; exact I2.bare) (fun b hb => ?_), rfl, q D fD⟩
  · rw [upd_ne (fun z => absurd (Heap.lt_size e) (by rw [z]; exact Nat.not_lt.mpr hD))]; exact n
  · rw [upd_ne (ne_of_none e fD)]; exact e
  · rw [upd_ne (ne_of_none e fD)]; exact e
  · rw [upd_ne (ne_of_none e fD), e]; simp
  · by_cases hb : b = D
    · subst hb
      rw [upd_same] at e
      cases e
      have at2 : t.heap.get? b = some { cls := .type "list", dict := none, data := .seq its.reverse.toArray c, slots := #[] } := by
        rw [at', ← Array.toArray_toList (xs := got), eg]
      exact ⟨by rw [List.length_reverse]; exact hz, its.reverse, c, Vals.reverse rv, at2⟩
    · rw [upd_ne hb] at e
      refine (I2.hok b u e).stay (fun c' v hc' q' => keep c' v ?_ q') (fun c' q' => by rw [upd_ne (ne_of_none q' fD)]; exact q') fun c' xs q' => by rw [upd_ne (ne_of_none q' fD)]; exact q'
      rcases hc' with z | z
      · rw [z]; exact neT b u e
      · exact neT c' _ z
  · have z : b = s1.heap.objs.size := by simpa using hb
    subst z
    exact ⟨f3, f1, f4, f5⟩
end L2
namespace L2
open PySem PySem.Spec PyProof.Rows
/-- // by a number of at most 250 bits -/
def CDivB (i j : Int) : Prop := 0 < j ∧ j < 2 ^ 250
theorem op_fdivB {X : Cx} : OpR X (binaryOp .FloorDiv) (rI CDivB fun i j => .int (i / j)) := opI fun i j _ _ _ _ _ hc q => by
  obtain ⟨h0, h1⟩ := hc
  refine floordiv_int (by omega) ?_ (.inl (PyProof.noPylong_of_log2 ?_))
  · rw [Int.fdiv_eq_ediv_of_nonneg i (by omega)]; exact q
  · have h2 : j.natAbs < 2 ^ 250 := by
      have e : ((j.natAbs : Nat) : Int) = j := Int.natAbs_of_nonneg (by omega)
      have : ((j.natAbs : Nat) : Int) < ((2 ^ 250 : Nat) : Int) := by rw [e]; exact_mod_cast h1
      exact Int.ofNat_lt.mp this
    have h3 : j.natAbs ≠ 0 := by omega
    have h4 : j.natAbs.log2 < 250 := (Nat.log2_lt h3).mpr h2
    exact Nat.lt_of_lt_of_le h4 (by decide)

/-! ### a deal and its draws -/
def dealK (sd n : Int) (l : Addr) : List (Key × V) := [(.inr "seed", .int sd), (.inr "number", .int n), (.inr "left", .ref l)]
theorem ksn : ¬ ((Sum.inr ("seed" : Str) : Key) = Sum.inr ("number" : Str)) := by decide +kernel
theorem ksl : ¬ ((Sum.inr ("seed" : Str) : Key) = Sum.inr ("left" : Str)) := by decide +kernel
theorem knl : ¬ ((Sum.inr ("number" : Str) : Key) = Sum.inr ("left" : Str)) := by decide +kernel
theorem kns : ¬ ((Sum.inr ("number" : Str) : Key) = Sum.inr ("seed" : Str)) := by decide +kernel
theorem kls : ¬ ((Sum.inr ("left" : Str) : Key) = Sum.inr ("seed" : Str)) := by decide +kernel
theorem kln : ¬ ((Sum.inr ("left" : Str) : Key) = Sum.inr ("number" : Str)) := by decide +kernel
theorem deal_seed (sd n : Int) (l : Addr) : valV (dealK sd n l) (Sum.inr "seed" : Key) = some (.int sd) := by unfold dealK; rw [valV_pos rfl]
theorem deal_number (sd n : Int) (l : Addr) : valV (dealK sd n l) (Sum.inr "number" : Key) = some (.int n) := by unfold dealK; rw [valV_neg ksn, valV_pos rfl]
theorem deal_left (sd n : Int) (l : Addr) : valV (dealK sd n l) (Sum.inr "left" : Key) = some (.ref l) := by unfold dealK; rw [valV_neg ksl, valV_neg knl, valV_pos rfl]
theorem put_seed (sd n v : Int) (l : Addr) : putK (dealK sd n l) (Sum.inr "seed" : Key) (.int v) = dealK v n l := by
  unfold putK dealK
  simp
  exact ⟨fun z => absurd (congrArg Sum.inr z) kns, fun z => absurd (congrArg Sum.inr z) kls⟩
theorem put_number (sd n v : Int) (l : Addr) : putK (dealK sd n l) (Sum.inr "number" : Key) (.int v) = dealK sd v l := by
  unfold putK dealK
  simp
  exact ⟨fun z => absurd (congrArg Sum.inr z) ksn, fun z => absurd (congrArg Sum.inr z) kln⟩
structure DealAt (H : Hp) (d l : Addr) (sd n : Int) (ls : List Int) : Prop where
  dc : H d = some (.dK (dealK sd n l))
  lc : H l = some (.lst (ls.map V.int))
  s0 : 0 ≤ sd
  s1 : sd < 2147483647
  n0 : 0 ≤ n
  l0 : ∀ x ∈ ls, 0 ≤ x
def Deal (H : Hp) (d l : Addr) : Prop := ∃ sd n ls, DealAt H d l sd n ls
theorem DealAt.ne {H : Hp} {d l : Addr} {sd n : Int} {ls : List Int} (D : DealAt H d l sd n ls) : d ≠ l := ne_of D.dc D.lc (by intro z; cases z)
/-- all but the deal is as it was -/
def Out (d l : Addr) (H H' : Hp) : Prop := ∀ b o, H b = some o → b ≠ d → b ≠ l → H' b = some o
theorem Out.refl {d l : Addr} (H : Hp) : Out d l H H := fun _ _ e _ _ => e
theorem Out.trans {d l : Addr} {H H1 H2 : Hp} (a : Out d l H H1) (b : Out d l H1 H2) : Out d l H H2 := fun c o e h1 h2 => b c o (a c o e h1 h2) h1 h2
theorem Out.of {d l : Addr} {H H' : Hp} (s : Same H H') : Out d l H H' := fun c o e _ _ => s c o e
theorem Out.upd_d {d l : Addr} {H : Hp} {o : HO} : Out d l H (upd H d o) := fun b u e h1 _ => by rw [upd_ne h1]; exact e
theorem Out.upd_l {d l : Addr} {H : Hp} {o : HO} : Out d l H (upd H l o) := fun b u e _ h1 => by rw [upd_ne h1]; exact e
theorem same_new {H : Hp} {p : Addr} (h : H p = none) (o : HO) : Same H (upd H p o) := fun b u q => by rw [upd_ne (ne_of_none q h)]; exact q
theorem DealAt.seed {H : Hp} {d l : Addr} {sd n : Int} {ls : List Int} (D : DealAt H d l sd n ls) {v : Int} (h0 : 0 ≤ v) (h1 : v < 2147483647) : DealAt (upd H d (.dK (dealK v n l))) d l v n ls :=
  ⟨upd_same, by rw [upd_ne D.ne.symm]; exact D.lc, h0, h1, D.n0, D.l0⟩
theorem DealAt.number {H : Hp} {d l : Addr} {sd n : Int} {ls : List Int} (D : DealAt H d l sd n ls) {v : Int} (h0 : 0 ≤ v) : DealAt (upd H d (.dK (dealK sd v l))) d l sd v ls :=
  ⟨upd_same, by rw [upd_ne D.ne.symm]; exact D.lc, D.s0, D.s1, h0, D.l0⟩
theorem DealAt.left {H : Hp} {d l : Addr} {sd n : Int} {ls ls' : List Int} (D : DealAt H d l sd n ls) (h : ∀ x ∈ ls', 0 ≤ x) : DealAt (upd H l (.lst (ls'.map V.int))) d l sd n ls' :=
  ⟨by rw [upd_ne D.ne]; exact D.dc, upd_same, D.s0, D.s1, D.n0, h⟩
theorem DealAt.out {H H' : Hp} {d l : Addr} {sd n : Int} {ls : List Int} (D : DealAt H d l sd n ls) (s : Same H H') : DealAt H' d l sd n ls := ⟨s _ _ D.dc, s _ _ D.lc, D.s0, D.s1, D.n0, D.l0⟩
theorem Deal.same {H H' : Hp} {d l : Addr} (D : Deal H d l) (s : Same H H') : Deal H' d l := let ⟨sd, n, ls, q⟩ := D; ⟨sd, n, ls, q.out s⟩
theorem DealAt.gs {H : Hp} {d l : Addr} {sd n : Int} {ls : List Int} (D : DealAt H d l sd n ls) : DGet H d (.str "seed") (some (.int sd)) := by rw [← deal_seed sd n l]; exact DGet.k (k := Sum.inr "seed") D.dc
theorem DealAt.gn {H : Hp} {d l : Addr} {sd n : Int} {ls : List Int} (D : DealAt H d l sd n ls) : DGet H d (.str "number") (some (.int n)) := by rw [← deal_number sd n l]; exact DGet.k (k := Sum.inr "number") D.dc
theorem DealAt.gl {H : Hp} {d l : Addr} {sd n : Int} {ls : List Int} (D : DealAt H d l sd n ls) : DGet H d (.str "left") (some (.ref l)) := by rw [← deal_left sd n l]; exact DGet.k (k := Sum.inr "left") D.dc
theorem DealAt.ps {H : Hp} {d l : Addr} {sd n : Int} {ls : List Int} (D : DealAt H d l sd n ls) (v : Int) : DPut H d (.str "seed") (.int v) (upd H d (.dK (dealK v n l))) := by
  rw [← put_seed sd n v l]; exact DPut.k (k := Sum.inr "seed") D.dc (small1000 (by show 3 ≤ 1000; decide))
theorem DealAt.pn {H : Hp} {d l : Addr} {sd n : Int} {ls : List Int} (D : DealAt H d l sd n ls) (v : Int) : DPut H d (.str "number") (.int v) (upd H d (.dK (dealK sd v l))) := by
  rw [← put_number sd n v l]; exact DPut.k (k := Sum.inr "number") D.dc (small1000 (by show 3 ≤ 1000; decide))
/-- a draw below m: some number, the deal turned, nothing else -/
def spDraw : Sp := fun vs H Q _ => ∃ (d l : Addr) (m : Int), vs = [.ref d, .int m] ∧ Deal H d l ∧ 0 < m ∧ m < 2 ^ 64 ∧
  ∀ (r : Int) (H' : Hp), 0 ≤ r → r < m → Deal H' d l → Out d l H H' → Q (.int r) H'
/-- a deal of the script -/
def spDeal (K : PySem.W.Frag) : Sp := fun vs H Q _ => ∃ (a : Addr) (ns : List Int) (b : Int), vs = [.ref a, .int b] ∧ SqL K H a (ns.map V.int) ∧ ns.length ≤ 63 ∧ 0 ≤ b ∧ b ≤ 1000 ∧
  ∀ (d l : Addr) (H' : Hp), H d = none → H l = none → Deal H' d l → Same H H' → Q (.ref d) H'
theorem ints_at {ns : List Int} {i : Nat} {y : V} (h : (ns.map V.int)[i]? = some y) : ∃ z, y = V.int z ∧ ns[i]? = some z := by
  rw [List.getElem?_map] at h
  cases e : ns[i]? with
  | none => rw [e] at h; cases h
  | some z => rw [e] at h; exact ⟨z, (Option.some.inj h).symm, rfl⟩
end L2
namespace L2
open PySem PySem.Spec PyProof.Rows
/-! ### plain data: ints, texts, bools, None, tuples, lists -/
mutual
def RepD (K : PySem.W.Frag) (H : Hp) : PyData → V → Prop
  | .none, v => v = .non
  | .bool b, v => v = .bl b
  | .int i, v => v = .int i
  | .str x, v => v = .str x
  | .tuple ds, v => ∃ a vs, v = .ref a ∧ SqT K H a vs ∧ RepL K H ds vs
  | .list ds, v => ∃ a vs, v = .ref a ∧ SqL K H a vs ∧ RepL K H ds vs
  | .dict _, _ => False
def RepL (K : PySem.W.Frag) (H : Hp) : List PyData → List V → Prop
  | [], vs => vs = []
  | d :: ds, vs => ∃ v r, vs = v :: r ∧ RepD K H d v ∧ RepL K H ds r
end
section
variable {X : Cx} {pins : List (Addr × Obj)} {σ : St} {H : Hp} {s : Shared}
mutual
theorem RepD.reads (I : Inv X pins σ H s) : ∀ (d : PyData) (v : V) (u : Value), RepD X.K H d v → RelV v u → ∃ as, Reads s.heap u d as
  | .none, v, u, h, r => by
    have h : v = .non := h
    subst h; cases r; exact ⟨_, .none⟩
  | .bool b, v, u, h, r => by
    have h : v = .bl b := h
    subst h; cases r; exact ⟨_, .bool b⟩
  | .int i, v, u, h, r => by
    have h : v = .int i := h
    subst h; obtain ⟨t, rfl⟩ := r; exact ⟨_, .int i t⟩
  | .str x, v, u, h, r => by
    have h : v = .str x := h
    subst h; obtain ⟨t, rfl⟩ := r; exact ⟨_, .str x t⟩
  | .tuple ds, v, u, h, r => by
    obtain ⟨a, vs, rfl, hs, hl⟩ := h
    cases r
    obtain ⟨its, rv, ⟨o, ho, hc, n, hd⟩, _⟩ := I.tuple hs
    obtain ⟨as, ra⟩ := RepL.reads I ds vs its hl rv
    exact ⟨_, .tuple ho hc hd (by simpa using ra)⟩
  | .list ds, v, u, h, r => by
    obtain ⟨a, vs, rfl, hs, hl⟩ := h
    cases r
    obtain ⟨its, rv, pl, _⟩ := I.list hs
    obtain ⟨o, ho, hc, n, hd⟩ := pl.isList
    obtain ⟨as, ra⟩ := RepL.reads I ds vs its hl rv
    exact ⟨_, .list ho hc hd (by simpa using ra)⟩
  | .dict _, v, u, h, r => h.elim
theorem RepL.reads (I : Inv X pins σ H s) : ∀ (ds : List PyData) (vs : List V) (us : List Value), RepL X.K H ds vs → Vals vs us → ∃ as, ReadsAll s.heap us ds as
  | [], vs, us, h, r => by
    have h : vs = [] := h
    subst h; cases r; exact ⟨_, .nil⟩
  | d :: ds, vs, us, h, r => by
    obtain ⟨v, t, rfl, hd, ht⟩ := h
    cases r with
    | cons r1 r2 =>
      obtain ⟨as, ra⟩ := RepD.reads I d v _ hd r1
      obtain ⟨bs, rb⟩ := RepL.reads I ds t _ ht r2
      exact ⟨_, .cons ra rb⟩
end
end
section
variable {X : Cx}
def rEqD (K : PySem.W.Frag) (neg : Bool) : R2 := fun x y H Q => ∃ d e, RepD K H d x ∧ RepD K H e y ∧ SeqAt.shaped d = true ∧ SeqAt.shaped e = true ∧ SeqAt.noMix d e = true ∧ Q (.bl (if neg then !Spec.same d e else Spec.same d e)) H
theorem op_neD {k : Nat} (hr : Room k X.A) : OpR X (compareOp .NotEq) (rEqD X.K true) := by
  intro pins s σ H x y v u Q I rx ry h
  obtain ⟨d, e, hd, he, sd, se, mx, q⟩ := h
  obtain ⟨as, ra⟩ := RepD.reads I d x v hd rx
  obtain ⟨bs, rb⟩ := RepD.reads I e y u he ry
  exact ne_dataH_same ra rb sd se hr.units mx ⟨.bl _, H, I, rfl, q⟩
/-! tuples of ints -/
theorem repL_ints {K : PySem.W.Frag} {H : Hp} : ∀ ns : List Int, RepL K H (ns.map PyData.int) (ns.map V.int)
  | [] => rfl
  | n :: r => ⟨_, _, rfl, rfl, repL_ints r⟩
theorem lay_ints : ∀ ns : List Int, PyData.canLayAll0 (ns.map PyData.int) = true
  | [] => rfl
  | _ :: r => by simp [PyData.canLayAll0, PyData.canLay0, lay_ints r]
theorem depth_ints : ∀ ns : List Int, PyData.depthAll (ns.map PyData.int) = 0
  | [] => rfl
  | _ :: r => by simp [PyData.depthAll, PyData.depth, depth_ints r]
theorem shaped_ints (ns : List Int) : SeqAt.shaped (.tuple (ns.map PyData.int)) = true := by
  simp [SeqAt.shaped, PyData.canLay0, PyData.depth, lay_ints, depth_ints]
theorem nomix_ints : ∀ ns ms : List Int, SeqAt.noMixAll (ns.map PyData.int) (ms.map PyData.int) = true
  | [], [] => rfl
  | [], _ :: _ => rfl
  | _ :: _, [] => rfl
  | _ :: r, _ :: t => by simp [SeqAt.noMixAll, SeqAt.noMix, nomix_ints r t]
theorem same_ints : ∀ ns ms : List Int, Spec.sameAll (ns.map PyData.int) (ms.map PyData.int) = decide (ns = ms)
  | [], [] => by simp [Spec.sameAll]
  | [], _ :: _ => by simp [Spec.sameAll]
  | _ :: _, [] => by simp [Spec.sameAll]
  | a :: r, b :: t => by
    simp only [List.map_cons, Spec.sameAll, Spec.same, same_ints r t]
    by_cases h : a = b <;> by_cases h' : r = t <;> simp [h, h']
/-! isinstance, all -/
theorem call_isinst : CallR X (.builtin "isinstance") (fun xs H Q => ∃ x n t b, xs = [x, .ty n] ∧ TyOf X.K H x t ∧ PySem.W.kitOne X.K t (.type n) = some b ∧ Q (.bl b) H) := by
  intro pins s σ H xs us Q I r h
  obtain ⟨x, n, t, b, rfl, ty, e, q⟩ := h
  obtain ⟨u, w', rfl, ru, rw'⟩ := vals2 r
  cases rw'
  exact isinst_ok I ru ty e fun tk => ⟨.bl b, H, I.tok tk, rfl, q⟩
theorem call_all (hc : X.calm = true := by rfl) : CallR X (.builtin "all") (fun xs H Q => ∃ (p : Addr) (bs : List Bool), xs = [.ref p] ∧ SqL X.K H p (bs.map V.bl) ∧ Q (.bl (bs.all id)) H) := by
  intro pins s σ H xs us Q I r h
  obtain ⟨p, bs, rfl, hq, q⟩ := h
  obtain ⟨u, rfl, ru⟩ := vals1 r
  cases ru
  obtain ⟨its, rv, pl, hz⟩ := I.list hq
  have lp : p < s.heap.objs.size := by
    obtain ⟨o, e, _⟩ := pl.isList
    exact Heap.lt_size e
  refine call_all_walk (wpAny_pyIter_list pl.isList ⟨s.heap.objs.size, _, _, _, _, _, fun i => bs.getD i true, rfl, Walks.list (A := X.A.in1) (I.ok.hd hc) s.heap.objs.size p (Nat.ne_of_lt lp) its.toArray, ⟨⟨_, Heap.get?_push_size _ rfl, rfl, rfl⟩, pl.isList.at fun o e => Heap.get?_push_of_some _ e⟩, ?_, ?_⟩)
  · intro i v s1 Q1 E1 hv hq1
    have hi : its[i]? = some v := by simpa using hv
    have hl := rv.length
    rw [List.length_map] at hl
    have hb : i < bs.length := by
      have := (List.getElem?_eq_some_iff.mp hi).1
      omega
    obtain ⟨u, hu, ru⟩ := rv.get (i := i) (x := V.bl bs[i]) (by rw [List.getElem?_map, List.getElem?_eq_getElem hb]; rfl)
    rw [hi] at hu
    cases hu
    cases ru
    have e : bs.getD i true = bs[i] := by simp [List.getD, hb]
    dsimp only at hq1
    rw [e] at hq1
    exact wpAny_truthy_bool hq1
  · intro h' tk hk
    have kept : ∀ b o, s.heap.get? b = some o → h'.get? b = some o := fun b o e => hk b o (by
      intro z
      have z : b = s.heap.objs.size := by simpa using z
      exact absurd (Heap.lt_size e) (by rw [z]; exact Nat.lt_irrefl _)) (Heap.get?_push_of_some _ e)
    refine ⟨.bl (bs.all id), H, I.kept kept, ?_, q⟩
    show Value.bool _ = Value.bool _
    have hl := rv.length
    rw [List.length_map] at hl
    have e : ((List.range its.toArray.size).all fun i => bs.getD i true) = bs.all id := by
      rw [List.size_toArray, ← hl]
      clear q hq rv pl hk hz hl
      rw [Bool.eq_iff_iff, List.all_eq_true, List.all_eq_true]
      constructor
      · intro h b hb
        obtain ⟨i, hi, e⟩ := List.getElem_of_mem hb
        have := h i (List.mem_range.mpr hi)
        simp [List.getD, hi] at this
        rw [← e]; exact this
      · intro h i hi
        have hi := List.mem_range.mp hi
        simp [List.getD, hi]
        exact h _ (List.getElem_mem hi)
    rw [e]
end
end L2
namespace L2
open PySem PySem.Spec PyProof.Rows
/-! ### the rules that name the fragment, with the fragment told: for a comprehension's block -/
section
variable {X : Cx} (K : PySem.W.Frag)
theorem isinstK (hK : X.K = K := by rfl) : CallR X (.builtin "isinstance") (fun xs H Q => ∃ x n t b, xs = [x, .ty n] ∧ TyOf K H x t ∧ PySem.W.kitOne K t (.type n) = some b ∧ Q (.bl b) H) := by subst hK; exact call_isinst
theorem lenK (hK : X.K = K := by rfl) : CallR X (.builtin "len") (fun xs H Q => ∃ p ys, xs = [.ref p] ∧ (SqL K H p ys ∨ SqT K H p ys) ∧ Q (.int ys.length) H) := by subst hK; exact call_len_seq
theorem ixtK (hK : X.K = K := by rfl) : IxR X (rIxT K) := by subst hK; exact ix_tup
theorem inK (hK : X.K = K := by rfl) : OpR X (compareOp .In) (rIn K false) := by subst hK; exact op_in_seq
end
end L2
namespace L2
open PySem PySem.Spec PyProof.Rows
theorem iteP {c A B : Prop} [Decidable c] (hc : c) (h : A) : if c then A else B := by rw [if_pos hc]; exact h
theorem iteN {c A B : Prop} [Decidable c] (hc : ¬ c) (h : B) : if c then A else B := by rw [if_neg hc]; exact h
/-! ### list(range(a, b)) -/
def rangeI (lo : Int) (n : Nat) : List Int := (List.range n).map fun (i : Nat) => lo + (i : Int)
theorem rangeI_len (lo : Int) (n : Nat) : (rangeI lo n).length = n := by simp [rangeI]
theorem rangeI_succ (lo : Int) (n : Nat) : rangeI lo (n + 1) = rangeI lo n ++ [lo + n] := by simp [rangeI, List.range_succ]
theorem rangeI_get {lo : Int} {n i : Nat} (h : i < n) : (rangeI lo n)[i]? = some (lo + i) := by
  unfold rangeI
  rw [List.getElem?_map, List.getElem?_range h]
  rfl
theorem mem_rangeI {lo z : Int} {n : Nat} : z ∈ rangeI lo n ↔ lo ≤ z ∧ z < lo + n := by
  unfold rangeI
  rw [List.mem_map]
  constructor
  · rintro ⟨i, hi, rfl⟩
    have := List.mem_range.mp hi
    omega
  · rintro ⟨h1, h2⟩
    exact ⟨(z - lo).toNat, List.mem_range.mpr (by omega), by omega⟩
/-! ### any -/
section
variable {X : Cx}
theorem pgtK {es : List Expr} {k : Nat} {t : TGs} {n : Nat} {pos : Pos} (K : PySem.W.Frag) (hc : X.calm = true) (h : PGs X es t) (hK : X.K = K := by rfl)
    (hn : (assignEach es X.env).length = n := by rfl) (hst : (assignEach es X.env).findIdx? (·.1) = none := by rfl) : PG X (.Tuple es k pos) (gTup K n t) := by subst hK; exact pg_tup hc h hn hst
theorem neDK {k : Nat} (K : PySem.W.Frag) (hr : Room k X.A) (hK : X.K = K := by rfl) : OpR X (compareOp .NotEq) (rEqD K true) := by subst hK; exact op_neD hr
end
/-! ### pairs of ints, as tuples on the heap -/
end L2
namespace L2
open PySem PySem.Spec PyProof.Rows
/-! ### products of great numbers -/
def Below (i : Int) : Prop := -(2 ^ 250) < i ∧ i < 2 ^ 250
def CMulB (i j : Int) : Prop := Below i ∧ Below j
theorem Below.bits {i : Int} (h : Below i) : Builtin.Int.intBits i ≤ 2 ^ 20 := by
  have h1 : i.natAbs < 2 ^ 250 := by
    have := h.1; have := h.2; omega
  exact Nat.le_trans (PyProof.Rows.intBits_le h1) (by decide)
theorem op_mulB {X : Cx} : OpR X (binaryOp .Mult) (rI CMulB fun i j => .int (i * j)) := opI fun _ _ _ _ _ _ _ hc q => mul_int q (IntMulOk.of_bits hc.1.bits hc.2.bits)
/-! ### repr of plain data -/
section
variable {X : Cx}
end
def fracD (a b : Int) : PyData := .tuple [.int a, .int b]
theorem frac_rep {K : PySem.W.Frag} {H : Hp} {p : Addr} {a b : Int} (h : H p = some (.tup [.int a, .int b])) : RepD K H (fracD a b) (.ref p) := ⟨p, _, rfl, SqT.of h, _, _, rfl, rfl, _, _, rfl, rfl, rfl⟩
/-! ### a, b, c = x, y, z with plain local names -/
end L2
namespace L2
open PySem PySem.Spec PyProof.Rows
section
variable {X : Cx} {pins : List (Addr × Obj)} {σ : St} {H : Hp} {s : Shared} {h' : Heap}
/-- records of ours have turned, and a new object is laid -/
theorem Inv.turnedNew {T : Addr} {o : HO} {rs : List Addr} {t' : Nat} (I : Inv X pins σ H s) (hf : ∀ b ∈ rs, FpOk X pins H b) (k : ∀ b u, b ∉ rs → s.heap.get? b = some u → h'.get? b = some u)
    (hp : s.heap.objs.size ≤ T) (new : ObjOk X.prog X.w (upd H T o) h' T o) : Inv X pins σ (upd H T o) { s with heap := h', toks := t' } := by
  have fT : H T = none := I.hok.fresh hp
  have nT : ∀ b u, s.heap.get? b = some u → b ≠ T := fun b u e z => absurd (Heap.lt_size e) (by rw [z]; exact Nat.not_lt.mpr hp)
  have nrs : ∀ b u, H b = some u → b ∉ rs := fun b u e z => by rw [(hf b z).1] at e; cases e
  refine I.step (g' := s.gens) (d' := s.drawn) (ch := rs) (fun b hb => ⟨(hf b hb).2.2.2.1, (hf b hb).2.1, (hf b hb).2.2.2.2.1, (hf b hb).2.2.2.2.2⟩) (fun b u _ _ hc e _ => k b u hc e) (fun b u _ _ hc e _ => ⟨u.slots, k b u hc e⟩)
    (fun b u _ e n => by rw [upd_ne (nT b u e)]; exact n) (fun b u hc e => ⟨u, k b u hc e⟩) (fun b xs e => by rw [upd_ne (ne_of_none e fT)]; exact e) (fun b u v e => by rw [upd_ne (ne_of_none e fT)]; exact e)
    (fun b ps e => ⟨#[], by rw [upd_ne (ne_of_none e fT), e]; simp⟩) (fun m hm => ?_) (fun b u e => ?_) I.bare
  · obtain ⟨u, es, ep, hu, r⟩ := hm
    exact ⟨u, es, ep, k _ u (fun z => (hf _ z).2.1 rfl) hu, r⟩
  · by_cases hb : b = T
    · subst hb
      rw [upd_same] at e
      cases e
      exact new
    · rw [upd_ne hb] at e
      refine (I.hok b u e).stay (fun c v hc q => k c v ?_ q) (fun c q => by rw [upd_ne (ne_of_none q fT)]; exact q) fun c xs q => by rw [upd_ne (ne_of_none q fT)]; exact q
      rcases hc with z | z
      · rw [z]; exact nrs b u e
      · exact nrs c _ z
theorem Inv.turnedL {rs : List Addr} {t' : Nat} (I : Inv X pins σ H s) (hf : ∀ b ∈ rs, FpOk X pins H b) (k : ∀ b u, b ∉ rs → s.heap.get? b = some u → h'.get? b = some u) : Inv X pins σ H { s with heap := h', toks := t' } := by
  have nrs : ∀ b u, H b = some u → b ∉ rs := fun b u e z => by rw [(hf b z).1] at e; cases e
  refine I.step (g' := s.gens) (d' := s.drawn) (ch := rs) (fun b hb => ⟨(hf b hb).2.2.2.1, (hf b hb).2.1, (hf b hb).2.2.2.2.1, (hf b hb).2.2.2.2.2⟩) (fun b u _ _ hc e _ => k b u hc e) (fun b u _ _ hc e _ => ⟨u.slots, k b u hc e⟩)
    (fun b u _ _ n => n) (fun b u hc e => ⟨u, k b u hc e⟩) (fun b xs e => e) (fun b u v e => e) (fun b ps e => ⟨#[], by rw [e]; simp⟩) (fun m hm => ?_) (fun b u e => ?_) I.bare
  · obtain ⟨u, es, ep, hu, r⟩ := hm
    exact ⟨u, es, ep, k _ u (fun z => (hf _ z).2.1 rfl) hu, r⟩
  · refine (I.hok b u e).stay (fun c v hc q => k c v ?_ q) (fun c q => q) fun c xs q => q
    rcases hc with z | z
    · rw [z]; exact nrs b u e
    · exact nrs c _ z
end
/-! ### zip of two tuples of one length: its records stand at n .. n + 4 -/
section
variable {prog : Program} {w : World} {A : Around} {E : Value → Shared → Prop} {s : Shared}
theorem nx_tup {J t : Addr} {i : Nat} {its : Array Value} {v : Value} {Q : Value → Shared → Prop} (a1 : s.heap.IsTupleIter J t i) (a2 : s.heap.IsTuple t its) (a3 : its[i]? = some v)
    (k : ∀ g, g.IsTupleIter J t (i + 1) → Heap.SameBut J s.heap g → Q v { s with heap := g }) : wpAny (model prog w) A (Builtin.SmallTypes.nextOf (.ref J)) Q E s := by
  obtain ⟨oJ, e1, e2, e3⟩ := id a1
  obtain ⟨oT, e4, _, m, e5⟩ := a2
  unfold Builtin.SmallTypes.nextOf
  refine wpAny_bind (wpAny_callSpecial?_slot (name := Str.ofString "__next__") a1.typeIs F.slot_tuple_iterator_next (wpAny_call_entry F.slot_tuple_iterator_next a1.typeIs F.entry_tuple_iterator_next ?_ (F.args_tuple_iterator_next_1 _)))
  show wpAny _ _ (field (.ref J) 0 >>= _) _ _ s
  refine wpAny_bind (wpAny_field e1 e3 (x := .ref t) rfl ?_)
  refine (show wpAny _ _ (if (Value.ref t == Value.none) = true then _ else _) _ _ s from ?_)
  rw [if_neg (show ¬ ((Value.ref t == Value.none) = true) by exact Bool.false_ne_true)]
  show wpAny _ _ (field (.ref J) 1 >>= _) _ _ s
  refine wpAny_bind (wpAny_field e1 e3 (x := .int i 0) rfl ?_)
  refine (show wpAny _ _ (seqItems? (.ref t) >>= _) _ _ s from wpAny_bind (wpAny_seqItems e4 e5 ?_))
  simp only [Int.toNat_natCast, a3]
  refine wpAny_bind (wpAny_setField e1 e3 (by simp) (wpAny_pure ⟨v, rfl, wpAny_pure (k _ ?_ (Heap.SameBut.update ..))⟩))
  exact ⟨_, Heap.get?_update_self _ e1 (Obj.isFreed_of_fields (Obj.data_mapFields e3 _)), (Obj.cls_mapFields ..).trans e2, by rw [Obj.data_mapFields e3]; simp [rawInt]⟩
theorem nx_tup_end {J t : Addr} {i : Nat} {its : Array Value} {Q : Value → Shared → Prop} (hh : A.handled = none) (a1 : s.heap.IsTupleIter J t i) (a2 : s.heap.IsTuple t its) (a3 : its[i]? = none)
    (k : ∀ g e, Heap.ExtBut J s.heap g → (∃ o, g.get? e = some o ∧ o.cls = .type "StopIteration") → E (.ref e) { s with heap := g }) : wpAny (model prog w) A (Builtin.SmallTypes.nextOf (.ref J)) Q E s := by
  obtain ⟨oJ, e1, e2, e3⟩ := id a1
  obtain ⟨oT, e4, _, m, e5⟩ := a2
  unfold Builtin.SmallTypes.nextOf
  refine wpAny_bind (wpAny_callSpecial?_slot (name := Str.ofString "__next__") a1.typeIs F.slot_tuple_iterator_next (wpAny_call_entry F.slot_tuple_iterator_next a1.typeIs F.entry_tuple_iterator_next ?_ (F.args_tuple_iterator_next_1 _)))
  show wpAny _ _ (field (.ref J) 0 >>= _) _ _ s
  refine wpAny_bind (wpAny_field e1 e3 (x := .ref t) rfl ?_)
  refine (show wpAny _ _ (if (Value.ref t == Value.none) = true then _ else _) _ _ s from ?_)
  rw [if_neg (show ¬ ((Value.ref t == Value.none) = true) by exact Bool.false_ne_true)]
  show wpAny _ _ (field (.ref J) 1 >>= _) _ _ s
  refine wpAny_bind (wpAny_field e1 e3 (x := .int i 0) rfl ?_)
  refine (show wpAny _ _ (seqItems? (.ref t) >>= _) _ _ s from wpAny_bind (wpAny_seqItems e4 e5 ?_))
  simp only [Int.toNat_natCast, a3]
  refine wpAny_bind (wpAny_rule (wpAny_bind (wpAny_setField e1 e3 (by simp) ?_)))
  refine (show wpAny _ _ (newExc (.type "StopIteration") [] >>= _) _ _ _ from wpAny_bind ?_)
  simp only [newExc, newTuple]
  refine wpAny_bind (wpAny_newObj_type ?_ (by size_fits))
  refine wpAny_bind (m := firstArgMember _ _) (wpAny_of_eq (a := Value.none) (by first | exact rfl | (simp only [firstArgMember]; rfl)) ?_)
  refine wpAny_newObj_type ?_ (by size_fits)
  simp only [raiseNew]
  refine wpAny_bind (wpAny_handled ?_)
  first | rw [hh] | rw [show A.in1.handled = none from hh]
  refine wpAny_bind (wpAny_pure (wpAny_throw ?_))
  exact k _ _ (((Heap.SameBut.update ..).extBut.push _).push _) ⟨_, Heap.get?_push_size _ rfl, rfl⟩
end
end L2
namespace L2
open PySem PySem.Spec PyProof.Rows
section
variable {prog : Program} {w : World} {A : Around} {E : Value → Shared → Prop} {s : Shared}
end
/-! ### the walk over a zip of two tuples of one length -/
section
variable {g : TG} {tc : TT} {te : TE}
end
end L2
namespace L2
open PySem PySem.Spec PyProof.Rows
/-! ### texts -/
section
variable {X : Cx} {tg : Expr}
end
end L2
namespace L2
open PySem PySem.Spec PyProof.Rows
/-! ### enumerate of a list, walked -/
/-! ### sum of a list of ints -/
section
variable {X : Cx}
end
end L2
namespace L2
open PySem PySem.Spec PyProof.Rows
theorem vals_of_ints : ∀ {us : List Value} {ns : List Int}, IntsAre us ns → Vals (ns.map V.int) us
  | _, _, .nil => .nil
  | _, _, .cons n t r => .cons ⟨t, rfl⟩ (vals_of_ints r)
/-- sorted of fewer than 64 ints: the same ones, rising -/
theorem call_sortI {X : Cx} : CallR X (.builtin "sorted") (fun xs H Q => ∃ (p : Addr) (ns : List Int), xs = [.ref p] ∧ SqL X.K H p (ns.map V.int) ∧ ns.length < 64 ∧
    ∀ ns' : List Int, ns'.Perm ns → ns'.Pairwise (· ≤ ·) → ∀ l, H l = none → Q (.ref l) (upd H l (.lst (ns'.map V.int)))) := by
  intro pins s σ H xs us Q I r h
  obtain ⟨p, ns, rfl, hq, hz, q⟩ := h
  obtain ⟨u, rfl, ru⟩ := vals1 r
  cases ru
  obtain ⟨its, rv, pl, _⟩ := I.list hq
  have len := rv.length
  rw [List.length_map] at len
  refine sorted_ints pl.isList (intsAre_of rv) (by omega) fun out ns' a1 a2 a3 => ?_
  obtain ⟨e, he⟩ := sortedAll_at s.heap its out
  have le : s.heap.objs.size ≤ s.heap.objs.size + 1 := Nat.le_succ _
  refine ⟨.ref (s.heap.objs.size + 1), _, I.laid (t' := s.toks) (o := .lst (ns'.map V.int)) (fun b o z => sortedAll_old z) le ?_, rfl, q ns' a2 a3 _ (I.hok.fresh le)⟩
  refine ⟨?_, out.toList, e, vals_of_ints a1, by rw [Array.toArray_toList]; exact he⟩
  rw [List.length_map, a2.length_eq]
  exact Nat.le_of_lt (small1000 (by omega))
end L2
namespace L2
open PySem PySem.Spec PyProof.Rows
/-! ### a dict's keys, walked: the dict is frozen from then on -/
theorem Inv.freeze {X : Cx} {pins : List (Addr × Obj)} {σ : St} {H : Hp} {s : Shared} {d : Addr} {o : Obj} {kvs : List (Key × V)} (I : Inv X pins σ H s) (h : H d = some (.dK kvs)) (ho : s.heap.get? d = some o) :
    Inv X pins σ (upd H d (.frz o (.dK kvs))) s := by
  have nd : ∀ b u, H b = some u → (∀ z, u ≠ .dK z) → b ≠ d := fun b u e hu z => by
    rw [z, h] at e
    exact hu _ (Option.some.inj e).symm
  refine I.step (g' := s.gens) (d' := s.drawn) (t' := s.toks) (h' := s.heap) (ch := []) (fun _ z => nomatch z) (fun b u _ _ _ e _ => e) (fun b u _ _ _ e _ => ⟨u.slots, e⟩) (fun b u _ e n => by rw [upd_ne (fun z => by rw [z, h] at n; cases n)]; exact n)
    (fun b u _ e => ⟨u, e⟩) (fun b xs e => by rw [upd_ne (nd b _ e (by intro z c; cases c))]; exact e) (fun b u v e => by rw [upd_ne (nd b _ e (by intro z c; cases c))]; exact e)
    (fun b ps e => ⟨#[], by rw [upd_ne (nd b _ e (by intro z c; cases c)), e]; simp⟩) (fun m hm => hm) (fun b u e => ?_) I.bare
  by_cases hb : b = d
  · subst hb
    rw [upd_same] at e
    cases e
    exact ⟨ho, I.hok b _ h⟩
  · rw [upd_ne hb] at e
    exact (I.hok b u e).stay (fun c v _ q => q) (fun c q => by rw [upd_ne (nd c _ q (by intro z w; cases w))]; exact q) fun c xs q => by rw [upd_ne (nd c _ q (by intro z w; cases w))]; exact q
theorem kv_get {κ : Type} : ∀ {kvs : List (κ × V)} {vs : List (κ × Value)} {i : Nat} {k : κ} {v : V}, KV kvs vs → kvs[i]? = some (k, v) → ∃ u, vs[i]? = some (k, u) ∧ RelV v u
  | _, _, _, _, _, .nil, e => by simp at e
  | _, _, 0, _, _, .cons r _, e => by
    simp at e
    subst e
    obtain ⟨r1, r2⟩ := r
    exact ⟨_, by simp; exact Prod.ext r1.symm rfl, r2⟩
  | _, _, i + 1, _, _, .cons _ r, e => by
    obtain ⟨u, e1, e2⟩ := kv_get (i := i) r (by simpa using e)
    exact ⟨u, by simpa using e1, e2⟩
theorem key_rel {k : Key} {u : Value} (h : keyIs k u = true) : RelV (kV k) u := by
  rcases keyIs_shape h with ⟨i, t, rfl, rfl⟩ | ⟨x, t, rfl, rfl⟩
  · exact ⟨t, rfl⟩
  · exact ⟨t, rfl⟩
def Itd (d : Addr) (o : Obj) (kvs : List (Key × V)) : It :=
  ⟨fun i H => i < kvs.length ∧ H d = some (.frz o (.dK kvs)), fun i H x H' => H' = H ∧ ∃ k v, kvs[i]? = some (k, v) ∧ x = kV k, fun i H => kvs.length ≤ i ∧ H d = some (.frz o (.dK kvs))⟩
theorem frz_at {X : Cx} {pins : List (Addr × Obj)} {σ : St} {H : Hp} {s : Shared} {d : Addr} {o : Obj} {kvs : List (Key × V)} {es : Array DictEntry} {ep : Nat} (I : Inv X pins σ H s) (ho : o.data = .dict es ep) (h : H d = some (.frz o (.dK kvs))) :
    ∃ vs, KV kvs vs ∧ s.heap.DictAt (mixKind X.prog X.w) d vs ep ∧ (d == sysModules) = false := by
  obtain ⟨e, z, ns, vs, rel, o', es', ep', h1, h2, h3, h4, h5, h6⟩ := (show ObjOk X.prog X.w H s.heap d (.frz o (.dK kvs)) from I.hok d _ h)
  rw [e] at h1
  cases h1
  rw [ho] at h3
  cases h3
  exact ⟨vs, rel, ⟨o, es, e, h2, ho, h4, h5, h6⟩, ns⟩
theorem turn_dict {P : Program} {w : World} {K : PySem.W.Frag} {tg : Expr} (d it : Addr) (o : Obj) (kvs : List (Key × V)) {es : Array DictEntry} {ep : Nat} (ho : o.data = .dict es ep) :
    Turn P w K tg (Itd d o kvs) [it] it (fun i h => i ≤ kvs.length ∧ h.IsKeyIter it d i kvs.length ep) where
  mem := by simp
  obj := fun i h st b hb => by
    have e : b = it := by simpa using hb
    subst e
    obtain ⟨o, e, c, q⟩ := st.2
    exact ⟨o, e, fun v z => by rw [q] at z; cases z⟩
  keep := fun i h h' st k => ⟨st.1, st.2.at fun o e => k it (by simp) o e⟩
  item := by
    intro X hP hw hK hc i pins s σ H E I hf st hg
    subst hP hw hK
    obtain ⟨hi, hd⟩ := hg
    obtain ⟨f0, f1, f2, f3, f4, f5⟩ := hf it (by simp)
    obtain ⟨vs, rel, da, ns⟩ := frz_at I ho hd
    have hl : kvs.length = vs.length := Paired.length rel
    obtain ⟨u, hu, _⟩ := kv_get (i := i) (k := kvs[i].1) (v := kvs[i].2) rel (by simp [hi])
    have st2 := st.2
    rw [hl] at st2
    refine wpAny_pyNext_dict_item st2 da hu fun key h' hk st' sb => ?_
    have I1 : Inv X pins σ H { s with heap := h' } := I.turned (t' := s.toks) (fun b o hb e => (sb.2 b hb).trans e) f0 f1 f3 f4 f5
    obtain ⟨o2, e2, c2, d2⟩ := id st'
    rw [← hl] at st'
    exact ⟨key, rfl, go_of (s := { s with heap := h' }) e2 c2 d2 (by decide) ⟨kV kvs[i].1, H, I1, key_rel hk, ⟨rfl, kvs[i].1, kvs[i].2, by simp [hi], rfl⟩, ⟨hi, st'⟩, fun b hb => (hf b hb).1⟩⟩
  done := by
    intro X hP hw hK hc i pins s σ H E I hf st hg
    subst hP hw hK
    obtain ⟨hi, hd⟩ := hg
    obtain ⟨f0, f1, f2, f3, f4, f5⟩ := hf it (by simp)
    obtain ⟨vs, rel, da, ns⟩ := frz_at I ho hd
    have hl : kvs.length = vs.length := Paired.length rel
    have st2 := st.2
    rw [hl] at st2
    exact wpAny_pyNext_dict_end (I.ok.hd hc) st2 da (by simp; omega) fun h' eb => ⟨rfl, I.turned (t' := s.toks) (fun b o hb e => eb b o hb e) f0 f1 f3 f4 f5⟩
  self := fun _ _ _ _ _ st h => wpAny_pyIter_keyiter st.2 h
def iDict (tl : TE) : TI := fun σ H R => tl σ H fun x H1 => ∃ d kvs, x = .ref d ∧ H1 d = some (.dK kvs) ∧ ∀ o, R (Itd d o kvs) (upd H1 d (.frz o (.dK kvs)))
theorem pi_dict {X : Cx} {tg l : Expr} {tl : TE} (hl : PE X l tl) : PI X tg l (iDict tl) := by
  intro pins s σ H R I h
  refine thn (hl pins s σ H _ I h) fun v s1 ⟨x, H1, I1, r1, q1⟩ => ?_
  obtain ⟨d, kvs, e, hd, q⟩ := q1
  subst e
  cases r1
  obtain ⟨z, ns, vs, rel, o, es, ep, h1, h2, h3, h4, h5, h6⟩ := dk_of I1.hok hd
  have hl : kvs.length = vs.length := Paired.length rel
  have I2 := I1.freeze hd h1
  refine wpAny_pyIter_dict (knd := mixKind X.prog X.w) ns ⟨o, es, h1, h2, h3, h4, h5, h6⟩ ?_
  have f : (upd H1 d (.frz o (.dK kvs))) s1.heap.objs.size = none := I2.hok.fresh (Nat.le_refl _)
  refine ⟨s1.heap.objs.size, [s1.heap.objs.size], _, _, _, rfl, I2.kept (t' := s1.toks) fun b o e => Heap.get?_push_of_some _ e, turn_dict d _ o kvs h3, ⟨Nat.zero_le _, ⟨_, Heap.get?_push_size _ rfl, rfl, by rw [hl]; rfl⟩⟩, fun b hb => ?_, q o⟩
  have e : b = s1.heap.objs.size := by simpa using hb
  subst e
  exact I2.fpOk (Nat.le_refl _) f
theorem comp_dict {d : Addr} {o : Obj} {kvs : List (Key × V)} {g : TG} {tc : TT} {te : TE} {Kf : List V → Hp → Prop} {σ0 : St} {H1 : Hp} (Pv : Nat → List V → St → Hp → Prop) (hz : kvs.length < sizeLine) (h0 : Pv 0 [] σ0 H1) (hb : ∀ i zs σ H, Pv i zs σ H → zs.length ≤ i)
    (hl : ∀ i zs σ H, i ≤ kvs.length → Pv i zs σ H → H d = some (.frz o (.dK kvs)))
    (hs : ∀ i k v zs σ H, kvs[i]? = some (k, v) → Pv i zs σ H → g (kV k) σ H fun σ2 H2 => tc σ2 H2 fun b H3 => if b = true then te σ2 H3 fun y H4 => Pv (i + 1) (zs ++ [y]) σ2 H4 else Pv (i + 1) zs σ2 H3)
    (hd : ∀ zs σ H, Pv kvs.length zs σ H → Kf zs H) : CompW (Itd d o kvs) g tc te Kf σ0 H1 := by
  refine ⟨fun i m zs σ H => m = kvs.length - i ∧ i ≤ kvs.length ∧ Pv i zs σ H, ⟨kvs.length, by simp, Nat.zero_le _, h0⟩, ?_⟩
  rintro i m zs σ H ⟨rfl, hi, p⟩
  have q1 := hl i zs σ H hi p
  refine ⟨Nat.lt_of_le_of_lt (hb _ _ _ _ p) (Nat.lt_of_le_of_lt hi hz), ?_⟩
  by_cases hlt : i < kvs.length
  · refine .inr ⟨⟨hlt, q1⟩, Pv (i + 1), fun zs' σ' H' p' => ⟨kvs.length - (i + 1), Nat.sub_lt_sub_left hlt (Nat.lt_succ_self i), rfl, hlt, p'⟩, fun x H' y => ?_⟩
    obtain ⟨rfl, k, v, e1, rfl⟩ := y
    exact hs i k v zs σ _ e1 p
  · have e : i = kvs.length := by omega
    subst e
    exact .inl ⟨⟨Nat.le_refl _, q1⟩, hd zs σ H p⟩
theorem DGet.f {H : Hp} {a : Addr} {o : Obj} {kvs : List (Key × V)} {k : Key} (e : H a = some (.frz o (.dK kvs))) : DGet H a (kV k) (valV kvs k) := .inl ⟨kvs, k, .inr ⟨o, e⟩, rfl, rfl⟩
end L2
namespace L2
open PySem PySem.Spec PyProof.Rows
section
variable {X : Cx}
variable {g : TG} {tc : TT} {te : TE}
end
end L2
namespace L2
open PySem PySem.Spec PyProof.Rows
open AutoSeq1 (wpAny_loadPart')
/-! ### enumerate of a tuple, walked -/
section
variable {prog : Program} {w : World} {A : Around} {E : Value → Shared → Prop} {s : Shared}
theorem draws_tup (hh : A.handled = none) (it l : Addr) (hne : l ≠ it) (items : Array Value) :
    Draws prog w A it [it, l] items.size (fun i v => items[i]? = some v) (fun i h => h.IsTupleIter it l i ∧ h.IsTuple l items) where
  live := fun _ _ st => let ⟨o, ho, _⟩ := st.1; ⟨o, ho⟩
  frame := fun _ _ _ st hk => ⟨let ⟨o, ho, r⟩ := st.1; ⟨o, hk it (by simp) o ho, r⟩, let ⟨o, ho, r⟩ := st.2; ⟨o, hk l (by simp) o ho, r⟩⟩
  item := fun i s Q E hi st hQ => by
    refine nx_tup st.1 st.2 (v := items[i]) (by simp [hi]) fun h' hit' hs' => ?_
    exact hQ _ h' s.toks (by simp [hi]) ⟨hit', st.2.extBut hs'.extBut hne⟩ hs'
  done := fun s Q E st hE => nx_tup_end hh st.1 st.2 (by simp) hE
end
theorem meets_enum_tup (l : Addr) (items : Array Value) (n : Nat) (dct : Option Addr) (sl : Array (Option Value)) :
    Meets (Builtin.«enumerate.__new__» ⟨[.type "enumerate", .ref l], []⟩) (fun _ R s => s.heap.get? l = some { cls := .type "tuple", dict := dct, data := .seq items n, slots := sl } ∧
      R (.ok (.ret (.ref (s.heap.push { cls := .type "tuple_iterator", data := .fields #[.ref l, .int 0 0] }).objs.size)))
        { s with heap := (s.heap.push { cls := .type "tuple_iterator", data := .fields #[.ref l, .int 0 0] }).push { cls := .type "enumerate", data := .fields #[.none, .bool false, .ref s.heap.objs.size, rawInt 0, .none, .none] } }) :=
  .of_wp fun prog w A R s h => by
    obtain ⟨hp, g, d, tk, os⟩ := s; obtain ⟨hl, h⟩ := h
    have hsub := sub_enumerate
    have hL : Heap.IsTuple (Shared.heap ⟨hp, g, d, tk, os⟩) l items := ⟨_, hl, rfl, n, rfl⟩
    wp_walk using wpAny_loadPart' hl
    refine wpAny_stack_any fun st => wpAny_pure ?_
    split
    · rename_i c _ _ _ _ _
      cases (c == Value.type "enumerate")
      · wp_walk using wpAny_loadPart' hl, wpAny_pyIter_tuple hL
        exact ⟨_, rfl, h⟩
      · wp_walk using wpAny_loadPart' hl, wpAny_pyIter_tuple hL
        exact ⟨_, rfl, h⟩
    · wp_walk using wpAny_loadPart' hl, wpAny_pyIter_tuple hL
      exact ⟨_, rfl, h⟩
section
variable {prog : Program} {w : World} {A : Around} {E : Value → Shared → Prop} {s : Shared}
theorem call_enum_tup {l : Addr} {items : Array Value} {Q : Value → Shared → Prop} (hL : s.heap.IsTuple l items)
    (h : ∀ h', IsEnum h' (s.heap.objs.size + 1) s.heap.objs.size 0 .none → h'.IsTupleIter s.heap.objs.size l 0 → h'.objs.size = s.heap.objs.size + 2 →
      (∀ b o, s.heap.get? b = some o → h'.get? b = some o) → Q (.ref (s.heap.objs.size + 1)) { s with heap := h' }) :
    wpAny (model prog w) A (call (.type "enumerate") [.ref l]) Q E s := by
  obtain ⟨⟨c, dct, dt, sl⟩, hl, hc, n, hd⟩ := hL
  replace hc : c = .type "tuple" := hc
  replace hd : dt = .seq items n := hd
  subst hc hd
  refine callType_new F.called_enumerate (by decide) (F.typeCall_enumerate_1 _) (F.newCall_enumerate_1 _) (fun obj => F.args_object_init_2 obj _) F.entry_enumerate_new
    (meets_enum_tup l items n dct sl) ⟨hl, ?_⟩
  have hz : (s.heap.push { cls := .type "tuple_iterator", data := .fields #[.ref l, .int 0 0] }).objs.size = s.heap.objs.size + 1 := Heap.size_push ..
  show _ ∧ _
  rw [hz]
  have he : IsEnum ((s.heap.push { cls := .type "tuple_iterator", data := .fields #[.ref l, .int 0 0] }).push
      { cls := .type "enumerate", data := .fields #[.none, .bool false, .ref s.heap.objs.size, rawInt 0, .none, .none] }) (s.heap.objs.size + 1) s.heap.objs.size 0 .none := by
    have := Heap.get?_push_size (s.heap.push { cls := .type "tuple_iterator", data := .fields #[.ref l, .int 0 0] })
      (o := { cls := .type "enumerate", data := .fields #[.none, .bool false, .ref s.heap.objs.size, rawInt 0, .none, .none] }) rfl
    rw [hz] at this; exact this
  refine ⟨⟨_, he, rfl⟩, h _ he ⟨_, Heap.get?_push_of_some _ (Heap.get?_push_size _ rfl), rfl, rfl⟩ (by rw [Heap.size_push, hz]) fun b o x => Heap.get?_push_of_some _ (Heap.get?_push_of_some _ x)⟩
end
def Itet (K : PySem.W.Frag) (a : Addr) : It :=
  ⟨fun i H => ∃ xs x, SqT K H a xs ∧ xs[i]? = some x,
   fun i H x H' => ∃ t, H t = none ∧ x = .ref t ∧ ∀ xs, SqT K H a xs → ∃ u, xs[i]? = some u ∧ H' = upd H t (.tup [.int i, u]),
   fun i H => ∃ xs, SqT K H a xs ∧ xs.length ≤ i⟩
theorem turn_enumT {P : Program} {w : World} {K : PySem.W.Frag} {elts : List Expr} {x1 : Nat} {pos : Pos} (a n : Addr) (han : a < n) :
    Turn P w K (.Tuple elts x1 pos) (Itet K a) [n, n + 1] (n + 1) (fun i h => (∃ old, IsEnum h (n + 1) n i old) ∧ h.IsTupleIter n a i) where
  mem := by simp
  obj := fun i h Z c hc => by
    obtain ⟨⟨old, he⟩, ⟨o1, e1, c1, d1⟩⟩ := Z
    simp only [List.mem_cons, List.not_mem_nil, or_false] at hc
    rcases hc with rfl | rfl
    · exact ⟨_, e1, fun v z => by rw [d1] at z; cases z⟩
    · exact ⟨_, he, fun v z => by cases z⟩
  keep := fun i h h' Z k => ⟨let ⟨old, he⟩ := Z.1; ⟨old, k _ (by simp) _ he⟩, let ⟨o, e, r⟩ := Z.2; ⟨o, k _ (by simp) o e, r⟩⟩
  item := by
    intro X hP hw hK hc i pins s σ H E I hf Z hg
    subst hP hw hK
    obtain ⟨xs, x, q1, hx⟩ := hg
    obtain ⟨its, rv, pl, _⟩ := I.tuple q1
    obtain ⟨u, hu, ru⟩ := rv.get hx
    obtain ⟨⟨old, he⟩, hit⟩ := Z
    have d0 : n + 1 ≠ n := Nat.succ_ne_self n
    have hil : i < its.toArray.size := by
      have := (List.getElem?_eq_some_iff.mp hu).1
      simpa using this
    refine wpAny_pyNext_enum_itemD (fp := [n, a]) (P := fun i v => its.toArray[i]? = some v) (draws_tup (A := X.A.in1) (I.ok.hd hc) n a (Nat.ne_of_lt han) its.toArray) he ⟨hit, pl⟩ hil d0 (fun z => by
      simp only [List.mem_cons, List.not_mem_nil, or_false] at z
      rcases z with z | z
      · exact d0 z
      · exact absurd z (Nat.ne_of_gt (Nat.lt_succ_of_lt han))) fun x' g tk px z1 j1 T1 _ k1 => ?_
    have exu : x' = u := by
      have : its[i]? = some x' := by simpa using px
      rw [hu] at this
      exact (Option.some.inj this).symm
    subst exu
    refine ⟨_, rfl, wpAny_letOwnedTupleGo_enum z1 fun g2 z2 sb => ?_⟩
    have nT : s.heap.objs.size ≠ n + 1 := Nat.ne_of_gt (Heap.lt_size he)
    have lt : ∀ c ∈ [n, n + 1], c < s.heap.objs.size := fun c hc => by
      simp only [List.mem_cons, List.not_mem_nil, or_false] at hc
      rcases hc with rfl | rfl
      · obtain ⟨o1, e1, _⟩ := hit
        exact Heap.lt_size e1
      · exact Heap.lt_size he
    have kk : ∀ c o, c ∉ [n, n + 1] → s.heap.get? c = some o → g2.get? c = some o := fun c o hc e => by
      simp only [List.mem_cons, List.not_mem_nil, or_false, not_or] at hc
      exact (sb.2 c hc.2).trans (k1 c o hc.2 hc.1 e)
    have TT : g2.get? s.heap.objs.size = some { cls := .type "tuple", data := .seq #[.int i tk, x'] } := (sb.2 _ nT).trans T1
    have I2 := I.turnedNew (T := s.heap.objs.size) (o := .tup [.int i, x]) (rs := [n, n + 1]) (t' := tk + 1) hf kk (Nat.le_refl _) ⟨by show 2 ≤ sizeLine; decide, [.int i tk, x'], .cons ⟨_, rfl⟩ (.cons ru .nil), ⟨_, TT, rfl, _, rfl, rfl⟩⟩
    refine ⟨.ref s.heap.objs.size, _, I2, rfl, ⟨_, I.fresh, rfl, fun xs' w1 => ⟨x, by rw [I.tuple_inj w1 q1]; exact hx, rfl⟩⟩, ⟨⟨_, by simpa using z2⟩, ?_⟩, fun c hc => ?_⟩
    · obtain ⟨o, e, r⟩ := j1.1
      exact ⟨o, (sb.2 _ d0.symm).trans e, r⟩
    rw [upd_ne (Nat.ne_of_lt (lt c hc))]
    exact (hf c hc).1
  done := by
    intro X hP hw hK hc i pins s σ H E I hf Z hg
    subst hP hw hK
    obtain ⟨xs, q1, hx⟩ := hg
    obtain ⟨its, rv, pl, _⟩ := I.tuple q1
    obtain ⟨⟨old, he⟩, hit⟩ := Z
    have hl := rv.length
    have hT : s.TypeIs (.ref (n + 1)) "enumerate" := ⟨_, he, rfl⟩
    unfold pyNext
    refine wpAny_bind (wpAny_attempt (wpAny_callSpecial?_slot (name := Str.ofString "__next__") hT F.slot_enumerate_next
      (wpAny_call_entry F.slot_enumerate_next hT F.entry_enumerate_next ?_ (F.args_enumerate_next_1 _))))
    show wpAny _ _ (field (.ref (n + 1)) 2 >>= _) _ _ _
    refine wpAny_bind (wpAny_field he rfl (x := .ref n) rfl ?_)
    refine wpAny_bind (nx_tup_end (I.ok.hd hc) hit pl (by simp; omega) fun g x he' hx' => ?_)
    obtain ⟨o, ho, hc'⟩ := hx'
    refine wpAny_bind (wpAny_isInstance (T := "StopIteration") (b := true) ⟨o, ho, hc'⟩ isSubtype_stop ?_)
    refine wpAny_pure ⟨rfl, I.turnedL (rs := [n, n + 1]) (t' := s.toks) hf fun c o hc e => ?_⟩
    simp only [List.mem_cons, List.not_mem_nil, or_false, not_or] at hc
    exact he' c o hc.1 e
  self := fun _ _ _ _ _ Z h => by
    obtain ⟨⟨old, he⟩, _⟩ := Z
    exact wpAny_pyIter_enum he h
def iEnumT (K : PySem.W.Frag) (ta : TA) : TI := fun σ H R => ta σ H fun vs H1 => ∃ a, vs = [.ref a] ∧ (∃ xs, SqT K H1 a xs) ∧ R (Itet K a) H1
theorem pi_enumT {X : Cx} {a : Expr} {ta : TA} {p pos : Pos} {elts : List Expr} {x1 : Nat} {tpos : Pos} (hg : Gl X "enumerate") (hm : X.mg "enumerate" = none) (ha : PA X [a] ta) (hs : starEach [a] X.env = [(false, eval a X.env)] := by rfl) :
    PI X (.Tuple elts x1 tpos) (.Call (.Name "enumerate" p) [a] [] pos) (iEnumT X.K ta) := by
  intro pins s σ H R I h
  refine wpAny_Call_Name_kw (ld_blt I hg hm PyProof.Rows.boot_enumerate (PyProof.Rows.callWith_type1 (thn (ha pos pins s σ H _ I h) fun us s1 ⟨vs, H1, I1, r1, q1⟩ => ?_) hs rfl))
  obtain ⟨a', rfl, ⟨xs, q1⟩, q⟩ := q1
  obtain ⟨u, rfl, ru⟩ := vals1 r1
  cases ru
  obtain ⟨its, _, pl, _⟩ := I1.tuple q1
  have la : a' < s1.heap.objs.size := by
    obtain ⟨o, e, _⟩ := id pl
    exact Heap.lt_size e
  refine call_enum_tup pl fun g he hit _ k => wpAny_pyIter_enum he ?_
  have I2 : Inv X pins σ H1 { s1 with heap := g } := I1.kept (t' := s1.toks) k
  refine ⟨s1.heap.objs.size + 1, _, _, Itet X.K a', H1, rfl, I2, turn_enumT a' s1.heap.objs.size la, ⟨⟨_, he⟩, hit⟩, fun c hc => ?_, q⟩
  have hge : s1.heap.objs.size ≤ c := by
    simp only [List.mem_cons, List.not_mem_nil, or_false] at hc
    rcases hc with rfl | rfl
    · exact Nat.le_refl _
    · exact Nat.le_add_right ..
  exact I1.fpOk hge (I1.hok.fresh hge)
theorem for_enumT {K : PySem.W.Frag} {a : Addr} {xs : List V} {g : TG} {tb : TS} {D : Ends} {σ : St} {H : Hp} (Pv : Nat → St → Hp → Prop) (h0 : Pv 0 σ H) (hl : ∀ i σ H, i ≤ xs.length → Pv i σ H → SqT K H a xs)
    (hs : ∀ i x σ H t, xs[i]? = some x → Pv i σ H → H t = none → g (.ref t) σ (upd H t (.tup [.int i, x])) fun σ2 H2 => tb { D with nx := Pv (i + 1), ct := Pv (i + 1), bk := D.nx } σ2 H2) (hd : ∀ σ H, Pv xs.length σ H → D.nx σ H) :
    ∃ W : Nat → Nat → St → Hp → Prop, (∃ m, W 0 m σ H) ∧ ∀ i m σ H, W i m σ H →
      ((Itet K a).stop i H ∧ D.nx σ H) ∨ ((Itet K a).go i H ∧ ∃ N : St → Hp → Prop, (∀ σ' H', N σ' H' → ∃ m', m' < m ∧ W (i + 1) m' σ' H') ∧ ∀ x H', (Itet K a).yld i H x H' → g x σ H' fun σ2 H2 => tb { D with nx := N, ct := N, bk := D.nx } σ2 H2) := by
  refine ⟨fun i m σ H => m = xs.length - i ∧ i ≤ xs.length ∧ Pv i σ H, ⟨xs.length, by simp, Nat.zero_le _, h0⟩, ?_⟩
  rintro i m σ H ⟨rfl, hi, p⟩
  have q := hl i σ H hi p
  by_cases hlt : i < xs.length
  · refine .inr ⟨⟨xs, xs[i], q, by simp [hlt]⟩, Pv (i + 1), fun σ' H' p' => ⟨xs.length - (i + 1), Nat.sub_lt_sub_left hlt (Nat.lt_succ_self i), rfl, hlt, p'⟩, fun x H' y => ?_⟩
    obtain ⟨t, ht, rfl, w⟩ := y
    obtain ⟨u, e1, rfl⟩ := w xs q
    exact hs i u σ H t e1 p ht
  · have e : i = xs.length := by omega
    subst e
    exact .inl ⟨⟨xs, q, Nat.le_refl _⟩, hd σ H p⟩
/-- // by a number of at most 400 bits -/
def CDivC (i j : Int) : Prop := 0 < j ∧ j < 2 ^ 200 * 2 ^ 200
theorem op_fdivC {X : Cx} : OpR X (binaryOp .FloorDiv) (rI CDivC fun i j => .int (i / j)) := opI fun i j _ _ _ _ _ hc q => by
  obtain ⟨h0, h1⟩ := hc
  refine floordiv_int (by (first | exact Int.ne_of_gt (by with_reducible assumption) | omega)) ?_ (.inl (PyProof.noPylong_of_log2 ?_))
  · rw [Int.fdiv_eq_ediv_of_nonneg i (by (first | exact Int.le_of_lt (by with_reducible assumption) | omega))]; exact q
  · have h2 : j.natAbs < 2 ^ 200 * 2 ^ 200 := by omega
    rw [← Nat.pow_add] at h2
    have h3 : j.natAbs ≠ 0 := by omega
    have h4 : j.natAbs.log2 < 200 + 200 := (Nat.log2_lt h3).mpr h2
    exact Nat.lt_of_lt_of_le h4 (by decide)
end L2
namespace L2
open PySem PySem.Spec PyProof.Rows
/-! ### loops whose turns neither break nor return: the rest of the def is out of their sight -/
theorem for_listA {K : PySem.W.Frag} {a : Addr} {xs : List V} {g : TG} {tb : TS} {D : Ends} {σ : St} {H : Hp} (Pv : Nat → St → Hp → Prop) (h0 : Pv 0 σ H) (hl : ∀ i σ H, i ≤ xs.length → Pv i σ H → SqL K H a xs)
    (hs : ∀ (D' : Ends), ∀ i x σ H, xs[i]? = some x → Pv i σ H → g x σ H fun σ2 H2 => tb { D' with nx := Pv (i + 1), ct := Pv (i + 1), bk := D'.nx } σ2 H2) (hd : ∀ σ H, Pv xs.length σ H → D.nx σ H) :
    ∃ W : Nat → Nat → St → Hp → Prop, (∃ m, W 0 m σ H) ∧ ∀ i m σ H, W i m σ H →
      ((Itl K a).stop i H ∧ D.nx σ H) ∨ ((Itl K a).go i H ∧ ∃ N : St → Hp → Prop, (∀ σ' H', N σ' H' → ∃ m', m' < m ∧ W (i + 1) m' σ' H') ∧ ∀ x H', (Itl K a).yld i H x H' → g x σ H' fun σ2 H2 => tb { D with nx := N, ct := N, bk := D.nx } σ2 H2) := for_list Pv h0 hl (hs D) hd
theorem for_tupA {K : PySem.W.Frag} {a : Addr} {xs : List V} {g : TG} {tb : TS} {D : Ends} {σ : St} {H : Hp} (Pv : Nat → St → Hp → Prop) (h0 : Pv 0 σ H) (hl : ∀ i σ H, i ≤ xs.length → Pv i σ H → SqT K H a xs)
    (hs : ∀ (D' : Ends), ∀ i x σ H, xs[i]? = some x → Pv i σ H → g x σ H fun σ2 H2 => tb { D' with nx := Pv (i + 1), ct := Pv (i + 1), bk := D'.nx } σ2 H2) (hd : ∀ σ H, Pv xs.length σ H → D.nx σ H) :
    ∃ W : Nat → Nat → St → Hp → Prop, (∃ m, W 0 m σ H) ∧ ∀ i m σ H, W i m σ H →
      ((Itt K a).stop i H ∧ D.nx σ H) ∨ ((Itt K a).go i H ∧ ∃ N : St → Hp → Prop, (∀ σ' H', N σ' H' → ∃ m', m' < m ∧ W (i + 1) m' σ' H') ∧ ∀ x H', (Itt K a).yld i H x H' → g x σ H' fun σ2 H2 => tb { D with nx := N, ct := N, bk := D.nx } σ2 H2) := for_tup Pv h0 hl (hs D) hd
theorem for_rangeA {lo : Int} {n : Nat} {g : TG} {tb : TS} {D : Ends} {σ : St} {H : Hp} (Pv : Nat → St → Hp → Prop) (h0 : Pv 0 σ H)
    (hs : ∀ (D' : Ends), ∀ i σ H, i < n → Pv i σ H → g (.int (lo + i)) σ H fun σ2 H2 => tb { D' with nx := Pv (i + 1), ct := Pv (i + 1), bk := D'.nx } σ2 H2) (hd : ∀ σ H, Pv n σ H → D.nx σ H) :
    ∃ W : Nat → Nat → St → Hp → Prop, (∃ m, W 0 m σ H) ∧ ∀ i m σ H, W i m σ H →
      ((Itr lo n).stop i H ∧ D.nx σ H) ∨ ((Itr lo n).go i H ∧ ∃ N : St → Hp → Prop, (∀ σ' H', N σ' H' → ∃ m', m' < m ∧ W (i + 1) m' σ' H') ∧ ∀ x H', (Itr lo n).yld i H x H' → g x σ H' fun σ2 H2 => tb { D with nx := N, ct := N, bk := D.nx } σ2 H2) := for_range Pv h0 (hs D) hd
theorem for_enumTA {K : PySem.W.Frag} {a : Addr} {xs : List V} {g : TG} {tb : TS} {D : Ends} {σ : St} {H : Hp} (Pv : Nat → St → Hp → Prop) (h0 : Pv 0 σ H) (hl : ∀ i σ H, i ≤ xs.length → Pv i σ H → SqT K H a xs)
    (hs : ∀ (D' : Ends), ∀ i x σ H t, xs[i]? = some x → Pv i σ H → H t = none → g (.ref t) σ (upd H t (.tup [.int i, x])) fun σ2 H2 => tb { D' with nx := Pv (i + 1), ct := Pv (i + 1), bk := D'.nx } σ2 H2) (hd : ∀ σ H, Pv xs.length σ H → D.nx σ H) :
    ∃ W : Nat → Nat → St → Hp → Prop, (∃ m, W 0 m σ H) ∧ ∀ i m σ H, W i m σ H →
      ((Itet K a).stop i H ∧ D.nx σ H) ∨ ((Itet K a).go i H ∧ ∃ N : St → Hp → Prop, (∀ σ' H', N σ' H' → ∃ m', m' < m ∧ W (i + 1) m' σ' H') ∧ ∀ x H', (Itet K a).yld i H x H' → g x σ H' fun σ2 H2 => tb { D with nx := N, ct := N, bk := D.nx } σ2 H2) := for_enumT Pv h0 hl (hs D) hd
end L2
namespace L2
open PySem PySem.Spec PyProof.Rows
/-! ### sorted(d), d a dict with ints for its keys -/
end L2
namespace L2
open PySem PySem.Spec PyProof.Rows
/-! ### numbers of many bits, by how many -/
def Bits (n : Nat) (i : Int) : Prop := i.natAbs < 2 ^ n
theorem Bits.mono {m n : Nat} {i : Int} (h : Bits m i) (le : m ≤ n) : Bits n i := Nat.lt_of_lt_of_le h (Nat.pow_le_pow_right (by decide) le)
theorem Bits.mul {m n : Nat} {i j : Int} (h : Bits m i) (k : Bits n j) : Bits (m + n) (i * j) := by
  unfold Bits at *
  rw [Int.natAbs_mul, Nat.pow_add]
  exact Nat.mul_lt_mul'' h k
theorem Bits.add {n : Nat} {i j : Int} (h : Bits n i) (k : Bits n j) : Bits (n + 1) (i + j) := by
  unfold Bits at *
  rw [Nat.pow_succ]
  have := Int.natAbs_add_le i j
  omega
theorem Bits.of {n : Nat} {i : Int} (h0 : 0 ≤ i) (h1 : i < 2 ^ n) : Bits n i := by
  unfold Bits
  have e : ((i.natAbs : Nat) : Int) = i := Int.natAbs_of_nonneg h0
  have : ((i.natAbs : Nat) : Int) < ((2 ^ n : Nat) : Int) := by rw [e]; exact_mod_cast h1
  exact Int.ofNat_lt.mp this
def CMulX (i j : Int) : Prop := ∃ m n, Bits m i ∧ Bits n j ∧ m ≤ 100000 ∧ n ≤ 100000
theorem op_mulX {X : Cx} : OpR X (binaryOp .Mult) (rI CMulX fun i j => .int (i * j)) := opI fun _ _ _ _ _ _ _ hc q => by
  obtain ⟨m, n, a, b, hm, hn⟩ := hc
  exact mul_int q (IntMulOk.of_bits (Nat.le_trans (PyProof.Rows.intBits_le a) (Nat.le_trans hm (by decide))) (Nat.le_trans (PyProof.Rows.intBits_le b) (Nat.le_trans hn (by decide))))
def CDivX (i j : Int) : Prop := 0 < j ∧ ∃ n, Bits n j ∧ n ≤ 8990
theorem op_fdivX {X : Cx} : OpR X (binaryOp .FloorDiv) (rI CDivX fun i j => .int (i / j)) := opI fun i j _ _ _ _ _ hc q => by
  obtain ⟨h0, n, h1, hn⟩ := hc
  refine floordiv_int (by omega) ?_ (.inl (PyProof.noPylong_of_log2 ?_))
  · rw [Int.fdiv_eq_ediv_of_nonneg i (by omega)]; exact q
  · have h3 : j.natAbs ≠ 0 := by omega
    exact Nat.lt_of_lt_of_le ((Nat.log2_lt h3).mpr h1) (Nat.le_trans hn (by decide))
end L2
namespace L2
open PySem PySem.Spec PyProof.Rows
section
variable {X : Cx}
end
end L2
namespace L2
open PySem PySem.Spec PyProof.Rows
/-! ### (a, b, ..) = a list of that length -/
section
variable {prog : Program} {w : World} {A : Around} {E : Value → Shared → Prop} {s : Shared}
end
section
variable {X : Cx} {pos : Pos}
end
end L2
namespace L2
open PySem PySem.Spec PyProof.Rows
theorem best_le (bt : Nat → Nat → Bool) : ∀ k, argBest bt k ≤ k
  | 0 => Nat.le_refl _
  | k + 1 => by
    have := best_le bt k
    rw [argBest]
    split <;> omega
/-- min of a tuple of ints: one of them -/
theorem call_min_t {X : Cx} (hc : X.calm = true := by rfl) : CallR X (.builtin "min") (fun xs H Q => ∃ (p : Addr) (ns : List Int), xs = [.ref p] ∧ SqT X.K H p (ns.map V.int) ∧ ns ≠ [] ∧ ∀ i ∈ ns, Q (.int i) H) := by
  intro pins s σ H xs us Q I r h
  obtain ⟨p, ns, rfl, hq, hne, q⟩ := h
  obtain ⟨u, rfl, ru⟩ := vals1 r
  cases ru
  obtain ⟨its, rv, pl, hz⟩ := I.tuple hq
  have it : s.heap.IsTuple p its.toArray := pl
  have lp : p < s.heap.objs.size := by
    obtain ⟨o, e, _⟩ := it
    exact Heap.lt_size e
  have hl := rv.length
  rw [List.length_map] at hl
  have val : ∀ i v, its.toArray[i]? = some v → ∃ t, v = Value.int (ns.getD i 0) t := fun i v hv => by
    have hi : its[i]? = some v := by simpa using hv
    have hb : i < ns.length := by
      have := (List.getElem?_eq_some_iff.mp hi).1
      omega
    obtain ⟨u, hu, ru⟩ := rv.get (i := i) (x := V.int ns[i]) (by rw [List.getElem?_map, List.getElem?_eq_getElem hb]; rfl)
    rw [hi] at hu
    cases hu
    obtain ⟨t, e⟩ := ru
    exact ⟨t, by rw [e]; simp [List.getD, hb]⟩
  have hpos : 0 < its.toArray.size := by
    rw [List.size_toArray, ← hl]
    cases ns with
    | nil => exact absurd rfl hne
    | cons _ _ => simp
  refine call_min_walk (wpAny_pyIter_tuple it ⟨s.heap.objs.size, _, _, _, _, _, _, rfl, Walks.tuple (A := X.A.in1) (I.ok.hd hc) s.heap.objs.size p (Nat.ne_of_lt lp) its.toArray, ⟨⟨_, Heap.get?_push_size _ rfl, rfl, rfl⟩, it.at fun o e => Heap.get?_push_of_some _ e⟩, ?_, hpos, CmpOf.ints_lt (fun i => ns.getD i 0) val, ?_⟩)
  · intro b hb
    rw [Heap.size_push]
    rcases List.mem_cons.mp hb with z | z
    · rw [z]; exact Nat.lt_succ_self _
    · have z : b = p := by simpa using z
      rw [z]; exact Nat.lt_succ_of_lt lp
  · intro v h' tk hv hk
    have kept : ∀ b o, s.heap.get? b = some o → h'.get? b = some o := fun b o e => hk b o (by
      intro z
      have z : b = s.heap.objs.size := by simpa using z
      exact absurd (Heap.lt_size e) (by rw [z]; exact Nat.lt_irrefl _)) (Heap.get?_push_of_some _ e)
    obtain ⟨t, rfl⟩ := val _ _ hv
    refine ⟨.int _, H, I.kept kept, ⟨t, rfl⟩, q _ ?_⟩
    have b := best_le (fun i j => decide (ns.getD i 0 < ns.getD j 0)) (its.toArray.size - 1)
    have b2 : argBest (fun i j => decide (ns.getD i 0 < ns.getD j 0)) (its.toArray.size - 1) < ns.length := by
      have e : its.toArray.size = its.length := List.size_toArray
      have p : 0 < its.toArray.size := hpos
      omega
    rw [List.getD_eq_getElem?_getD, List.getElem?_eq_getElem b2]
    exact List.getElem_mem b2
theorem pitK {X : Cx} {tg l : Expr} {tl : TE} (K : PySem.W.Frag) (hl : PE X l tl) (hK : X.K = K := by rfl) : PI X tg l (iTup K tl) := by subst hK; exact pi_tup hl
end L2
namespace L2
open PySem PySem.Spec PyProof.Rows
/-! ### an own exception, of own classes above it, with an __init__ of its own -/
section
variable {prog : Program} {w : World} {A : Around} {E : Value → Shared → Prop} {h : Heap} {g : Array GenState} {d : Drawn} {t : Nat} {os : OsState}
variable {nm q : Str} {C N fI : Addr} {bs bm bmB bmN : List Value} {hdct : Bool} {sn : List Str} {sub : List Value} {ab : Bool} {col : Option Bool} {dd : Option Addr} {k0 k1 k2 k3 k5 : Option Value} {B Bn newId nid inN initId : String}
end
/-! ### what of this the fragment tells -/
/-- a dict of the fragment whose keys are texts alone -/
def textKeys (K : PySem.W.Frag) (N : Addr) : Bool := match K.lookup N with
  | some ⟨_, _, .dict es _, _⟩ => es.toList.all fun e => match e.key with | .str _ _ => true | _ => false
  | _ => false
theorem ns_of_text {K : PySem.W.Frag} {h : Heap} {N : Addr} (X : K.In h) (e : textKeys K N = true) : ∃ m, h.Ns N m := by
  unfold textKeys at e
  split at e
  · rename_i c dd es ep sl ho
    refine ⟨_, _, es, ep, X _ _ ho, rfl, fun x hx => ?_, fun _ => rfl⟩
    have q := List.all_eq_true.mp e x (by simpa using hx)
    cases hk : x.key with
    | str n t => exact ⟨n, t, rfl⟩
    | _ => rw [hk] at q; cases q
  · cases e
end L2
namespace L2
open PySem PySem.Spec PyProof.Rows
/-! ### own exceptions as things of the abstract heap -/
/-- one without a dict as yet; one whose dict lies at dx; that dict -/
def XN (a C : Addr) : HO := .ext fun h => ∃ o, h.get? a = some o ∧ o.cls = .ref C ∧ PySem.W.notCls o = true ∧ o.dict = none
def XD (a C dx : Addr) : HO := .ext fun h => ∃ o, h.get? a = some o ∧ o.cls = .ref C ∧ PySem.W.notCls o = true ∧ o.dict = some dx
def XM (a : Addr) (fs : List (Str × V)) : HO := .ext fun h => ∃ mA, h.Ns1 a mA ∧ (∀ f, RelO (fs.lookup f) (mA f)) ∧ PySem.Within mA (fs.map (·.1))
section
variable {P : Program} {w : World} {H : Hp} {h : Heap} {a C dx : Addr} {fs : List (Str × V)}
theorem xn_ok (e : ∃ o, h.get? a = some o ∧ o.cls = .ref C ∧ PySem.W.notCls o = true ∧ o.dict = none) : ObjOk P w H h a (XN a C) :=
  ⟨e, let ⟨o, q, _⟩ := e; ⟨o, q⟩, fun _ _ ⟨o, q, r⟩ k => ⟨o, k o q, r⟩⟩
end
/-- an own class right under an own one right under ValueError -/
abbrev veMro (C D : Addr) : List Value := [.ref C, .ref D, .type "ValueError", .type "Exception", .type "BaseException", .type "object"]
structure XOver (K : PySem.W.Frag) (C D : Addr) : Prop where
  at_ : ∃ cd, PySem.W.clsIn K C = some cd ∧ cd.hasDict = true ∧ cd.mro = veMro C D
  sa : PySem.W.findIn K (.ref C) "__setattr__" = some (some (.builtin "object.__setattr__"))
  ga : PySem.W.findIn K (.ref C) "__getattribute__" = some (some (.builtin "BaseException.__getattribute__"))
  gh : PySem.W.findIn K (.ref C) "__getattr__" = some none
section
variable {prog : Program} {w : World} {A : Around} {E : Value → Shared → Prop} {R : Result → Shared → Prop} {s : Shared} {K : PySem.W.Frag} {x C D : Addr} {ox : Obj} {od : Option Obj} {name : Str} {v : Value} {tk : Tok}
theorem XOver.sub {M : Model} {h : Heap} (W : XOver K C D) (X : K.In h) {T : Value} {b : Bool} (e : (veMro C D).contains T = b) : PySem.W.Looks M h (isSubtype (.ref C) T) b := by
  obtain ⟨cd, hc, _, hm⟩ := W.at_
  refine PySem.W.looks_mroIn X ?_
  unfold PySem.W.mroIn
  rw [hc, Option.bind_some, hm, if_neg (by simp), e]
end
end L2
namespace L2
open PySem PySem.Spec PyProof.Rows
section
variable {prog : Program} {w : World} {A : Around} {E : Value → Shared → Prop} {R : Result → Shared → Prop} {s : Shared} {K : PySem.W.Frag} {x C D : Addr} {ox : Obj} {od : Option Obj} {name : Str} {v : Value} {tk : Tok}
end
end L2
namespace L2
open PySem PySem.Spec PyProof.Rows
section
variable {prog : Program} {w : World} {A : Around} {E : Value → Shared → Prop} {R : Result → Shared → Prop} {s : Shared} {K : PySem.W.Frag} {x C D : Addr} {ox : Obj} {od : Option Obj} {name : Str} {v : Value} {tk : Tok}
theorem ga_x (X : K.In s.heap) (I : PySem.W.InstAt s.heap x ox C od) (W : XOver K C D)
    (h : wpAny (model prog w) A.in1 (Builtin.«object.__getattribute__» ⟨[.ref x, .str name tk], []⟩) (fun fin s' => match fin with | .done f => R (.ok f) s' | .again c' => c'.quiet = true ∧ codeAny (model prog w) A c' R s') (fun e s' => R (.error e) s') s) :
    codeAny (model prog w) A (.call (.builtin "BaseException.__getattribute__") ⟨[.ref x, .str name tk], []⟩) R s := by
  have base : PySem.W.Looks (model prog w) s.heap (isInstance (.ref x) (.type "BaseException")) true := I.type.andThen (W.sub X (by simp))
  exact codeAny_call_builtin PySem.F.excAttr_ValueError.ga.plain PySem.F.entry_bexc_ga
    (@PySem.W.check_slot (model prog w) _ _ s "BaseException.__getattribute__" "BaseException" "__getattribute__" (.ref x) [.str name tk] [] _ (by decide +kernel) (by decide +kernel) base (PySem.F.args_bexc_ga _ _) h)
/-- the road of e.f, up to what the object's own __getattribute__ hands back -/
theorem xby {Q : Value → Shared → Prop} {fill expr : Bool} (X : K.In s.heap) (I : PySem.W.InstAt s.heap x ox C od) (W : XOver K C D) (hh : PySem.W.handedIn v = true)
    (h : ∀ P : Value → Shared → Prop, P v s → wpAny (model prog w) A.in1 (Builtin.«object.__getattribute__» ⟨[.ref x, .str name tk], []⟩) (fun fin s' => match fin with | .done (.ret u) => P u s' | _ => False) (fun _ _ => False) s)
    (q : Q v s) : wpAny (model prog w) A (getAttrBy (.ref x) (.str name tk) fill expr) Q E s := by
  obtain ⟨hp, g, d, t, os⟩ := s
  have L0 := I.type (M := model prog w)
  have L1 := PySem.W.looks_findIn (M := model prog w) X W.ga
  have L2 := PySem.W.looks_findIn (M := model prog w) X W.gh
  unfold getAttrBy
  refine wpAny_holding (wpAny_bind (L0.at (wpAny_bind (L1.at ?_))))
  show wpAny _ _ (getAttrByItsOwn _ _ _ _ _ _) _ _ _
  refine wpAny_bind (L2.at (wpAny_bind (wpAny_attempt (wpAny_holding ?_))))
  have e0 : callGetattribute (.ref x) (.str name tk) (.builtin "BaseException.__getattribute__") expr = boundAndCalled (.builtin "BaseException.__getattribute__") (.ref x) (.str name tk) := by cases expr <;> rfl
  rw [e0]
  unfold boundAndCalled
  rw [PySem.F.excAttr_ValueError.ga.bind]
  refine wpAny_bind (wpAny_pure (wpAny_call (ga_x X I W (wpAny_mono (h (fun u s' => wpAny (model prog w) A (handedOut u) Q E s') ?_) (fun fin s' z => ?_) fun _ _ z => z.elim))))
  · rw [PySem.W.handedOut_of hh]
    exact wpAny_pure q
  · rcases fin with (_ | _ | _ | _) | _ <;> first | exact z | exact z.elim
end
end L2
namespace L2
open PySem PySem.Spec PyProof.Rows
/-- what isinstance asks of the class -/
structure XIs (K : PySem.W.Frag) (C : Addr) : Prop where
  at_ : PySem.W.findIn K (.ref C) "__class__" = some (some (.builtin "object.__class__"))
  get : PySem.W.specialIn K (.builtin "object.__class__") "__get__" = some (some (.builtin "getset_descriptor.__get__"))
  tk : PySem.W.takesIn K (.builtin "object.__class__") = some true
section
variable {prog : Program} {w : World} {A : Around} {E : Value → Shared → Prop} {R : Result → Shared → Prop} {s : Shared} {K : PySem.W.Frag} {x C D : Addr} {ox : Obj} {od : Option Obj} {name : Str} {v : Value} {tk : Tok}
theorem find_cls (W : XOver K C D) (Z : XIs K C) : PySem.W.findObj K C od "__class__" = some (.bind (.builtin "getset_descriptor.__get__") (.builtin "object.__class__")) := by
  obtain ⟨cd, hc, _⟩ := W.at_
  unfold PySem.W.findObj
  rw [hc, Option.bind_some, Z.at_, Option.bind_some]
  simp [Z.get, Z.tk]
theorem XOver.obj (W : XOver K C D) : PySem.W.mroIn K C (.type "object") = some true := by
  obtain ⟨cd, hc, _, hm⟩ := W.at_
  unfold PySem.W.mroIn
  rw [hc, Option.bind_some, hm, if_neg (by simp)]
  simp
theorem xcls {Q : Option Value → Shared → Prop} (X : K.In s.heap) (I : PySem.W.InstAt s.heap x ox C od) (W : XOver K C D) (Z : XIs K C) (h : Q (some (.ref C)) { s with toks := s.toks + 1 }) : wpAny (model prog w) A (getAttr? (.ref x) "__class__") Q E s := by
  obtain ⟨hp, g, d, t, os⟩ := s
  unfold getAttr? getAttrBy?
  refine wpAny_bind (wpAny_mkText (wpAny_bind (wpAny_attempt (xby (s := ⟨hp, g, d, t + 1, os⟩) (v := .ref C) X I W rfl (fun P p => ?_) (wpAny_pure h)))))
  have L0 := I.type (M := model prog w)
  have L3 := PySem.W.looks_find (M := model prog w) X I (find_cls (od := od) W Z)
  refine wpAny_bind (wpAny_pure (wpAny_bind (wpAny_pure (wpAny_bind (L0.at (wpAny_bind (L3.at ?_)))))))
  show wpAny _ _ (holding [.builtin "object.__class__"] (call (.builtin "getset_descriptor.__get__") [.builtin "object.__class__", .ref x, .ref C]) >>= ret) _ _ _
  exact wpAny_bind (wpAny_holding (wpAny_call (PySem.W.class_get (s := ⟨hp, g, d, t + 1, os⟩) X I W.obj (wpAny_pure p))))
theorem XOver.isT {M : Model} {h : Heap} (W : XOver K C D) (X : K.In h) : PySem.W.Looks M h (isType (.ref C)) true := by
  obtain ⟨cd, hc, _⟩ := W.at_
  unfold PySem.W.clsIn at hc
  split at hc
  · rename_i ho
    intro A' Q' E' s' k q
    unfold isType loadHead
    exact wpAny_bind (wpAny_loadPart (k _ _ (X _ _ ho)) (wpAny_pure q))
  · cases hc
theorem kitx_x (W : XOver K C D) (Z : XIs K C) : PySem.W.KitX K (.ref x) (.ref C) (fun h => ∃ ox od, PySem.W.InstAt h x ox C od) where
  ty := fun _ _ _ ⟨_, _, I⟩ => I.type
  it := fun _ _ X _ => W.isT X
  ne := fun h tp dd its n sl X htp => by
    obtain ⟨cd, hc, _⟩ := W.at_
    refine Bool.eq_false_iff.mpr fun q => ?_
    cases Value.ref.inj (beq_iff_eq.mp q)
    unfold PySem.W.clsIn at hc
    split at hc
    · rename_i ho
      cases (X _ _ ho).symm.trans htp
    · cases hc
  ca := fun X ⟨_, _, I⟩ k => xcls X I W Z k
end
/-- an own exception at a, with or without fields -/
def XAt (H : Hp) (a C : Addr) : Prop := H a = some (XN a C) ∨ ∃ dx fs, H a = some (XD a C dx) ∧ H dx = some (XM dx fs)
section
variable {X : Cx} {pins : List (Addr × Obj)} {σ : St} {H : Hp} {s : Shared} {a C D dx : Addr} {fs : List (Str × V)} {f : Str} {v : V} {A : Around} {E : Value → Shared → Prop}
theorem x_none (I : Inv X pins σ H s) (e : H a = some (XN a C)) : ∃ o, s.heap.get? a = some o ∧ o.cls = .ref C ∧ PySem.W.notCls o = true ∧ o.dict = none :=
  (show ObjOk X.prog X.w H s.heap a (XN a C) from I.hok a _ e).1
theorem x_dict (I : Inv X pins σ H s) (e : H a = some (XD a C dx)) : ∃ o, s.heap.get? a = some o ∧ o.cls = .ref C ∧ PySem.W.notCls o = true ∧ o.dict = some dx :=
  (show ObjOk X.prog X.w H s.heap a (XD a C dx) from I.hok a _ e).1
theorem x_map (I : Inv X pins σ H s) (e : H dx = some (XM dx fs)) : ∃ mA, s.heap.Ns1 dx mA ∧ (∀ f, RelO (fs.lookup f) (mA f)) ∧ PySem.Within mA (fs.map (·.1)) :=
  (show ObjOk X.prog X.w H s.heap dx (XM dx fs) from I.hok dx _ e).1
theorem x_inst (I : Inv X pins σ H s) (e : XAt H a C) : ∃ ox od, PySem.W.InstAt s.heap a ox C od := by
  rcases e with e | ⟨dx, fs, e, e'⟩
  · obtain ⟨o, h1, h2, h3, h4⟩ := x_none I e
    exact ⟨o, none, h1, h2, h3, by rw [h4]; trivial⟩
  · obtain ⟨o, h1, h2, h3, h4⟩ := x_dict I e
    obtain ⟨mA, n, _⟩ := x_map I e'
    obtain ⟨od, ho, _⟩ := lookIn_ns n
    exact ⟨o, some od, h1, h2, h3, by rw [h4]; exact ho⟩
/-- isinstance(e, c) of an own exception -/
theorem call_isX : CallR X (.builtin "isinstance") (fun xs H Q => ∃ a c C D b, xs = [.ref a, c] ∧ (∃ C', c = .ref C' ∧ PySem.W.kitOne X.K (.ref C) (.ref C') = some b ∨ ∃ n, c = .ty n ∧ PySem.W.kitOne X.K (.ref C) (.type n) = some b) ∧ XAt H a C ∧ XOver X.K C D ∧ XIs X.K C ∧ Q (.bl b) H) := by
  intro pins s σ H xs us Q I r h
  obtain ⟨a, c, C, D, b, rfl, e, x, W, Z, q⟩ := h
  obtain ⟨u, w', rfl, ru, rw'⟩ := vals2 r
  cases ru
  have fin : ∀ tk, EP X pins σ Q (.bool b) { s with toks := tk } := fun tk => ⟨.bl b, H, I.tok tk, rfl, q⟩
  obtain ⟨C', e⟩ := e
  rcases e with ⟨rfl, e⟩ | ⟨n, rfl, e⟩
  · cases rw'
    exact PySem.W.kia_one (kitx_x W Z) I.kIn (x_inst I x) e (fun z => nomatch z) fin
  · cases rw'
    exact PySem.W.kia_one (kitx_x W Z) I.kIn (x_inst I x) e (fun z => nomatch z) fin
end
end L2
namespace L2
open PySem PySem.Spec PyProof.Rows
theorem ns_at {K : PySem.W.Frag} {h : Heap} {a : Addr} {m : Str → Option Value} {n : Str} {r : Option Value} (X : K.In h) (G : h.Ns a m) (e : PySem.W.nsIn K a n = some r) : m n = r := by
  obtain ⟨o, es, ep, ho, hd, _, hf⟩ := G
  rw [← hf]
  unfold nsFind findBy
  rw [← Array.find?_toList]
  unfold PySem.W.nsIn at e
  split at e
  · rename_i q
    have z := (X _ _ q).symm.trans ho
    cases z
    cases hd
    split at e
    · rename_i he
      cases e
      rw [he]
      rfl
    · rename_i he
      split at e
      · cases e
      · cases e
        rw [he]
        rfl
  · cases e
section
variable {prog : Program} {w : World} {A : Around} {E : Value → Shared → Prop} {h : Heap} {g : Array GenState} {d : Drawn} {t : Nat} {os : OsState}
variable {nm q : Str} {C N fI : Addr} {bs bm bmB bmN : List Value} {hdct : Bool} {sn : List Str} {sub : List Value} {ab : Bool} {col : Option Bool} {dd : Option Addr} {k0 k1 k2 k3 k5 : Option Value} {B Bn newId nid inN initId : String}
end
abbrev veB : List Value := [.type "ValueError", .type "Exception", .type "BaseException", .type "object"]
/-- what of the text a class must have to be made -/
structure XMk (K : PySem.W.Frag) (C D : Addr) (i : Option Value) : Prop where
  kp : PySem.W.keepIn K (.ref C) = true
  cls : ∃ (nm q : Str) (N : Addr) (bs : List Value) (hdct : Bool) (sn : List Str) (sub : List Value) (ab : Bool) (col : Option Bool) (dd : Option Addr) (k0 k1 k2 k3 k5 : Option Value) (Bn newId inN : String) (bmN : List Value), ExcBaseFacts Bn newId inN bmN ∧ veB.contains (.type Bn) = true ∧
    K.lookup C = some (excClassObj nm q C N bs (.ref D :: veB) hdct sn sub ab col dd k0 k1 k2 k3 k5 newId) ∧ textKeys K N = true ∧ PySem.W.nsIn K N "__init__" = some i
  up : ∃ (c0 : Value) (dd : Option Addr) (cd : ClassData) (sl : Array (Option Value)), K.lookup D = some ⟨c0, dd, .cls cd, sl⟩ ∧ textKeys K cd.ns = true ∧ PySem.W.nsIn K cd.ns "__init__" = some none
theorem XMk.tail {K : PySem.W.Frag} {C D : Addr} {i : Option Value} {h : Heap} (M : XMk K C D i) (X : K.In h) : OwnTail h veB (.ref D :: veB) := by
  obtain ⟨c0, dd, cd, sl, l, tx, n⟩ := M.up
  obtain ⟨m, hm⟩ := ns_of_text X tx
  exact .own (X _ _ l) hm (ns_at X hm n) .base
section
variable {X : Cx} {CX : CXT} {k : Nat} {f C D : Addr} {fd : FuncData} {ps : List Str} {sp : Sp} {E : XK} {x : Str} {p pos : Pos} {e : Expr} {es : List Expr} {t : TA}
end
end L2
namespace L2
open PySem PySem.Spec PyProof.Rows
theorem XOver.subIn {K : PySem.W.Frag} {C D : Addr} (W : XOver K C D) (T : Value) : PySem.W.subIn K (.ref C) T = some ((veMro C D).contains T) := by
  obtain ⟨cd, hc, _, hm⟩ := W.at_
  show PySem.W.mroIn K C T = _
  unfold PySem.W.mroIn
  rw [hc, Option.bind_some, hm, if_neg (by simp)]
theorem kitm_ve : PySem.W.kitMeta "ValueError" = true := by decide +kernel
theorem over_of {K : PySem.W.Frag} {C D N : Addr} {nm q : Str} {bs : List Value} {sn : List Str} {sub : List Value} {ab : Bool} {col : Option Bool} {dd : Option Addr} {k0 k1 k2 k3 k5 : Option Value} {newId : String}
    (l : K.lookup C = some (excClassObj nm q C N bs (.ref D :: veB) true sn sub ab col dd k0 k1 k2 k3 k5 newId)) (sa : PySem.W.findIn K (.ref C) "__setattr__" = some (some (.builtin "object.__setattr__")))
    (ga : PySem.W.findIn K (.ref C) "__getattribute__" = some (some (.builtin "BaseException.__getattribute__"))) (gh : PySem.W.findIn K (.ref C) "__getattr__" = some none) : XOver K C D :=
  ⟨⟨_, by unfold PySem.W.clsIn; rw [l], rfl, rfl⟩, sa, ga, gh⟩
theorem mk_of {K : PySem.W.Frag} {C D N : Addr} {nm q : Str} {bs : List Value} {sn : List Str} {sub : List Value} {ab : Bool} {col : Option Bool} {dd : Option Addr} {k0 k1 k2 k3 k5 i : Option Value}
    {c0 : Value} {dd' : Option Addr} {cd : ClassData} {sl : Array (Option Value)}
    (l : K.lookup C = some (excClassObj nm q C N bs (.ref D :: veB) true sn sub ab col dd k0 k1 k2 k3 k5 "ValueError.__new__")) (kp : PySem.W.keepIn K (.ref C) = true) (tx : textKeys K N = true) (ni : PySem.W.nsIn K N "__init__" = some i)
    (lD : K.lookup D = some ⟨c0, dd', .cls cd, sl⟩) (tD : textKeys K cd.ns = true) (nD : PySem.W.nsIn K cd.ns "__init__" = some none) : XMk K C D i :=
  ⟨kp, ⟨nm, q, N, bs, true, sn, sub, ab, col, dd, k0, k1, k2, k3, k5, _, _, _, _, PySem.F.excBase_ValueError, by simp, l, tx, ni⟩, ⟨c0, dd', cd, sl, lD, tD, nD⟩⟩
theorem text_of {K : PySem.W.Frag} {N : Addr} {oc : Value} {od : Option Addr} {es : Array DictEntry} {n : Nat} {sl : Array (Option Value)} (l : K.lookup N = some ⟨oc, od, .dict es n, sl⟩) (h : (es.toList.all fun e => match e.key with | .str _ _ => true | _ => false) = true) : textKeys K N = true := by
  unfold textKeys
  rw [l]
  exact h
end L2
namespace L2
open PySem PySem.Spec PyProof.Rows PySem.W
/-- an exception of the class at C that flies: its record x, its traceback T -/
def ExcAt (h : Heap) (x C : Addr) (tb : Value) : Prop := ∃ o vs, h.get? x = some o ∧ o.cls = .ref C ∧ o.dict = .none ∧ o.data = .fields vs ∧ vs[1]? = some tb
def Flies (h : Heap) (x T C : Addr) (fl : Value) : Prop := ExcAt h x C (.ref T) ∧ T ≠ x ∧ ∃ o ts, h.get? T = some o ∧ o.data = .fields ts ∧ ts[3]? = some fl
/-- all but ch is as it was, of the frames the slots may be others -/
structure Kp (fs ch : List Addr) (h h' : Heap) : Prop where
  k : ∀ b o, h.get? b = some o → b ∉ fs → b ∉ ch → h'.get? b = some o
  f : ∀ b o, h.get? b = some o → b ∈ fs → b ∉ ch → ∃ sl, h'.get? b = some { o with slots := sl }
theorem Kp.any {fs ch : List Addr} {h h' : Heap} (a : Kp fs ch h h') {b : Addr} {o : Obj} (e : h.get? b = some o) (n : b ∉ ch) : ∃ sl, h'.get? b = some { o with slots := sl } := by
  by_cases c : b ∈ fs
  · exact a.f b o e c n
  · exact ⟨o.slots, a.k b o e c n⟩
theorem Kp.trans {fs ch : List Addr} {h h1 h2 : Heap} (a : Kp fs ch h h1) (b : Kp fs ch h1 h2) : Kp fs ch h h2 :=
  ⟨fun c o e n m => b.k c o (a.k c o e n m) n m, fun c o e n m => by
    obtain ⟨sl, e1⟩ := a.f c o e n m
    obtain ⟨sl2, e2⟩ := b.f c _ e1 n m
    exact ⟨sl2, e2⟩⟩
theorem Kp.mono {fs ch ch' : List Addr} {h h' : Heap} (a : Kp fs ch h h') (s : ∀ b ∈ ch, b ∈ ch') : Kp fs ch' h h' := ⟨fun b o e n m => a.k b o e n fun z => m (s b z), fun b o e n m => a.f b o e n fun z => m (s b z)⟩
theorem Kp.kept {fs : List Addr} {h h' : Heap} (k : ∀ b o, h.get? b = some o → h'.get? b = some o) : Kp fs [] h h' := ⟨fun b o e _ _ => k b o e, fun b o e _ _ => ⟨o.slots, k b o e⟩⟩
/-- what isn't there needs no keeping -/
theorem Kp.drop {fs ch : List Addr} {h h' : Heap} (a : Kp fs ch h h') (n : ∀ b ∈ ch, h.get? b = .none) : Kp fs [] h h' := by
  have q : ∀ b o, h.get? b = some o → b ∉ ch := fun b o e z => by rw [n b z] at e; cases e
  exact ⟨fun b o e hn _ => a.k b o e hn (q b o e), fun b o e hn _ => a.f b o e hn (q b o e)⟩
theorem ff_kp {base : Heap} : ∀ {l : List Env} {h h' : Heap}, h.FunFrames base l → (∀ b ∈ frs l, ∀ o, h.get? b = some o → ∃ sl, h'.get? b = some { o with slots := sl }) → h'.FunFrames base l
  | [], _, _, _, _ => by rw [Heap.FunFrames.eq_1]; trivial
  | env :: l, h, h', ff, k => by
    rw [Heap.FunFrames.eq_2] at ff ⊢
    obtain ⟨h1, ⟨L, o, h2, h3, h4, h5⟩, h6⟩ := ff
    obtain ⟨sl, e⟩ := k L (List.mem_filterMap.mpr ⟨env, List.mem_cons_self, h2⟩) o h4
    refine ⟨h1, ⟨L, _, h2, h3, e, h5⟩, ff_kp h6 fun b hb => k b ?_⟩
    obtain ⟨env', h7, h8⟩ := List.mem_filterMap.mp hb
    exact List.mem_filterMap.mpr ⟨env', List.mem_cons_of_mem _ h7, h8⟩
section
variable {M : Model} {A : Around} {E : Value → Shared → Prop} {s : Shared} {base : Heap} {env : Env} {outer : List Env} {L x T C : Addr} {Q : Unit → Shared → Prop}
theorem flight_none {fs : List Addr} {fl : Value} (hT : T ∉ fs) (F : Flies s.heap x T C fl) (q : ∀ h', Kp fs [T] s.heap h' → Flies h' x T C .none → Q () { s with heap := h' }) : wpAny M A (setFlight (.ref x) .none) Q E s := by
  obtain ⟨⟨o, vs, e1, e2, e3, e4, e5⟩, ne, oT, ts, f1, f2, f3⟩ := F
  have sz : 3 < ts.size := (Array.getElem?_eq_some_iff.mp f3).1
  refine wpAny_setFlight_none e1 e4 e5 f1 f2 sz (q _ ⟨fun b u e _ n => ?_, fun b u e hb n => ⟨u.slots, ?_⟩⟩ ⟨⟨o, vs, ?_, e2, e3, e4, e5⟩, ne, _, _, Heap.get?_update_self _ f1 (Obj.isFreed_of_fields (Obj.data_mapFields f2 _)), Obj.data_mapFields f2 _, ?_⟩)
  · rw [Heap.get?_update_ne _ _ _ _ (by simpa using n)]; exact e
  · rw [Heap.get?_update_ne _ _ _ _ (by simpa using n)]; exact e
  · rw [Heap.get?_update_ne _ _ _ _ ne.symm]; exact e1
  · simp [sz]
/-- a new entry of the traceback -/
theorem entryX {head : Value} {hadNext : Bool} {tb : Value} (hA : A.frames = some (env :: outer)) (ff : s.heap.FunFrames base (env :: outer)) (hf : env.frame = some L) (ex : ExcAt s.heap x C tb)
    (q : ∀ h' T, Kp (frs (env :: outer)) [x] s.heap h' → s.heap.get? T = .none → T ∉ frs (env :: outer) → Flies h' x T C (rawInt L) → Q () { s with heap := h' }) :
    wpAny M A (do
      let a ← PySem.frameOf env
      let pl ← entryPlaceOf L hadNext
      let b ← EntryCells.newEntry head a Value.none (rawInt L) Value.none pl
      setField (Value.ref x) 1 b) Q E s := by
  obtain ⟨o, vs, e1, e2, e3, e4, e5⟩ := ex
  have nx : x ∉ frs (env :: outer) := fun z => by
    obtain ⟨_, u, hu, hd⟩ := ff.mem z
    rw [e1] at hu
    cases hu
    exact hd _ e4
  have sz : 1 < vs.size := (Array.getElem?_eq_some_iff.mp e5).1
  refine wpAny_bind (wpAny_frameOf_fun hA ff hf fun h1 so => ?_)
  obtain ⟨z1, k1, sl1⟩ := so
  refine wpAny_bind (wpAny_entryPlaceOf fun pl hpl => ?_)
  refine wpAny_bind (wpAny_newObj_type ?_ (hpl.sizeOk5 _ _ _ _ _))
  have ex1 : (h1.push { cls := .type "traceback", dict := .none, data := .fields ([head, Value.ref L, Value.none, rawInt L, Value.none] ++ if pl.isEmpty = true then List.replicate 6 Value.none else pl).toArray }).get? x = some o := Heap.get?_push_of_some _ ((k1 x nx).trans e1)
  refine wpAny_setField ex1 e4 sz ?_
  have lt1 : x < h1.objs.size := Heap.lt_size ((k1 x nx).trans e1)
  have neT : h1.objs.size ≠ x := Nat.ne_of_gt lt1
  have fT : s.heap.get? h1.objs.size = .none := by rw [z1]; exact Heap.get?_none_of_le (Nat.le_refl _)
  refine q _ h1.objs.size ⟨fun b u e hn n => ?_, fun b u e hb n => ?_⟩ fT (fun z => ?_) ⟨⟨_, _, Heap.get?_update_self _ ex1 (Obj.isFreed_of_fields (Obj.data_mapFields e4 _)), (Obj.cls_mapFields ..).trans e2, ?_, Obj.data_mapFields e4 _, by simp [sz]⟩, neT, { cls := .type "traceback", dict := .none, data := .fields ([head, Value.ref L, Value.none, rawInt L, Value.none] ++ if pl.isEmpty = true then List.replicate 6 Value.none else pl).toArray }, _, ?_, rfl, ?_⟩
  · rw [Heap.get?_update_ne _ _ _ _ (by simpa using n)]
    exact Heap.get?_push_of_some _ ((k1 b hn).trans e)
  · obtain ⟨sl, e'⟩ := sl1 b u e
    refine ⟨sl, ?_⟩
    rw [Heap.get?_update_ne _ _ _ _ (by simpa using n)]
    exact Heap.get?_push_of_some _ e'
  · obtain ⟨_, u, hu, _⟩ := ff.mem z
    rw [fT] at hu
    cases hu
  · obtain ⟨c, d, da, sl⟩ := o
    dsimp only at e3 e4
    subst e3 e4
    rfl
  · rw [Heap.get?_update_ne _ _ _ _ neT]
    exact Heap.get?_push_size _ rfl
  · simp
theorem note_new (hA : A.frames = some (env :: outer)) (ff : s.heap.FunFrames base (env :: outer)) (hf : env.frame = some L) (ex : ExcAt s.heap x C .none)
    (q : ∀ h' T, Kp (frs (env :: outer)) [x] s.heap h' → s.heap.get? T = .none → T ∉ frs (env :: outer) → Flies h' x T C (rawInt L) → Q () { s with heap := h' }) : wpAny M A (noteFrame (.ref x) env) Q E s := by
  obtain ⟨o, vs, e1, e2, e3, e4, e5⟩ := id ex
  unfold noteFrame
  rw [hf]
  refine wpAny_bind (wpAny_field e1 e4 e5 ?_)
  rw [if_neg (by simp)]
  exact entryX hA ff hf ex q
theorem note_on (hA : A.frames = some (env :: outer)) (ff : s.heap.FunFrames base (env :: outer)) (hf : env.frame = some L) (hT : T ∉ frs (env :: outer)) (F : Flies s.heap x T C .none)
    (q : ∀ h' T', Kp (frs (env :: outer)) [x, T] s.heap h' → s.heap.get? T' = .none → T' ∉ frs (env :: outer) → Flies h' x T' C (rawInt L) → Q () { s with heap := h' }) : wpAny M A (noteFrame (.ref x) env) Q E s := by
  obtain ⟨⟨o, vs, e1, e2, e3, e4, e5⟩, ne, oT, ts, f1, f2, f3⟩ := id F
  have sz : 3 < ts.size := (Array.getElem?_eq_some_iff.mp f3).1
  unfold noteFrame
  rw [hf]
  refine wpAny_bind (wpAny_field e1 e4 e5 ?_)
  rw [if_pos (by simp)]
  refine wpAny_bind (wpAny_field f1 f2 f3 ?_)
  rw [if_neg (by simp [rawInt])]
  refine wpAny_bind (wpAny_setField f1 f2 sz ?_)
  have k1 : Kp (frs (env :: outer)) [T] s.heap (s.heap.update T (Obj.mapFields fun y => y.setIfInBounds 3 Value.none)) := ⟨fun b u e _ n => by rw [Heap.get?_update_ne _ _ _ _ (by simpa using n)]; exact e, fun b u e hb n => ⟨u.slots, by rw [Heap.get?_update_ne _ _ _ _ (by simpa using n)]; exact e⟩⟩
  have x1 : (s.heap.update T (Obj.mapFields fun y => y.setIfInBounds 3 Value.none)).get? x = some o := by rw [Heap.get?_update_ne _ _ _ _ ne.symm]; exact e1
  have n1 : ∀ b, s.heap.get? b ≠ .none → (s.heap.update T (Obj.mapFields fun y => y.setIfInBounds 3 Value.none)).get? b ≠ .none := fun b hb => by
    by_cases c : b = T
    · subst c
      rw [Heap.get?_update_self _ f1 (Obj.isFreed_of_fields (Obj.data_mapFields f2 _))]
      simp
    · rw [Heap.get?_update_ne _ _ _ _ c]; exact hb
  have ff1 : (s.heap.update T (Obj.mapFields fun y => y.setIfInBounds 3 Value.none)).FunFrames base (env :: outer) := ff_kp ff fun b hb u e => k1.f b u e hb (by simpa using fun z : b = T => hT (z ▸ hb))
  generalize s.heap.update T (Obj.mapFields fun y => y.setIfInBounds 3 Value.none) = h1 at k1 x1 n1 ff1 ⊢
  refine entryX (s := { s with heap := h1 }) (tb := .ref T) hA ff1 hf ⟨o, vs, x1, e2, e3, e4, e5⟩ fun h' T' k2 t1 t2 F2 => q h' T' ((k1.mono (by simp)).trans (k2.mono (by simp))) ?_ t2 F2
  cases z : s.heap.get? T' with
  | none => rfl
  | some u => exact absurd t1 (n1 T' (by rw [z]; simp))
end
theorem ObjOk.got {P : Program} {w : World} {H : Hp} {h : Heap} {a : Addr} {o : HO} (x : ObjOk P w H h a o) : ∃ ob, h.get? a = some ob := by
  cases o with
  | lst xs => obtain ⟨_, _, _, _, e⟩ := x; exact ⟨_, e⟩
  | tup xs => obtain ⟨_, _, _, o, e, _⟩ := x; exact ⟨_, e⟩
  | dK kvs => obtain ⟨_, _, _, _, o, _, _, e, _⟩ := x; exact ⟨_, e⟩
  | dT kvs => obtain ⟨_, _, _, _, o, _, _, e, _⟩ := x; exact ⟨_, e⟩
  | set S n => obtain ⟨o, _, _, _, e, _⟩ := x; exact ⟨_, e⟩
  | ins C dx fs => obtain ⟨_, _, _, e, _⟩ := x; exact ⟨_, e⟩
  | own y => obtain ⟨_, e⟩ := x; exact ⟨_, e⟩
  | xd fs => obtain ⟨_, ⟨_, _, _, e, _⟩, _⟩ := x; exact ⟨_, e⟩
  | rng lo hi => obtain ⟨_, _, _, e⟩ := x; exact ⟨_, e⟩
  | frz ob u => obtain ⟨e, _⟩ := x; exact ⟨_, e⟩
  | tbl ps => exact ⟨_, (show h.get? a = some _ from x)⟩
  | met f y => exact ⟨_, (show h.get? a = some _ from x)⟩
  | ext φ => obtain ⟨_, ⟨_, e⟩, _⟩ := x; exact ⟨_, e⟩
theorem HOk.none {P : Program} {w : World} {H : Hp} {h : Heap} {a : Addr} (x : HOk P w H h) (e : h.get? a = .none) : H a = .none := by
  cases q : H a with
  | none => rfl
  | some u =>
    obtain ⟨o, z⟩ := (x a u q).got
    rw [e] at z
    cases z
section
variable {X : Cx} {pins : List (Addr × Obj)} {σ : St} {H : Hp} {s : Shared}
theorem frs_stack (hs : X.stack = X.env :: X.outer) (hf : X.env.frame = some X.env.locals) {b : Addr} : b ∈ frs X.stack ↔ b = X.env.locals ∨ b ∈ frs X.outer := by
  rw [hs]
  unfold frs
  rw [List.filterMap_cons, hf]
  simp
/-- behind a call that raised: all is as behind a call, and the exception flies -/
def CX1 (P : Program) (w : World) : CXT := fun outer H s E e s' => ∃ (x T C : Addr) (H' : Hp), e = .ref x ∧ s'.os = s.os ∧ AllBare s'.gens ∧ Un (frs outer) [] H H' s.heap s'.heap ∧ HOk P w H' s'.heap ∧
  s.heap.get? x = .none ∧ s.heap.get? T = .none ∧ H' x = .none ∧ H' T = .none ∧ Flies s'.heap x T C .none ∧ E (.ref C) .none H'
/-- tracked things are no frames -/
theorem Inv.hokK (I : Inv X pins σ H s) {h' : Heap} {ch : List Addr} (k : Kp (frs X.stack) ch s.heap h') (n : ∀ b ∈ ch, H b = .none) : HOk X.prog X.w H h' := fun b u e => by
  have nf : ∀ c v, H c = some v → c ∉ frs X.stack ∧ c ∉ ch := fun c v e => ⟨fun z => (by rw [I.stkFree c z] at e; cases e), fun z => (by rw [n c z] at e; cases e)⟩
  refine (I.hok b u e).stay (fun c v hc q => ?_) (fun c q => q) fun c xs q => q
  rcases hc with z | z
  · rw [z] at q ⊢; exact k.k _ _ q (nf b u e).1 (nf b u e).2
  · exact k.k _ _ q (nf c _ z).1 (nf c _ z).2
theorem leave_made {E : XK} {x C : Addr} {h1 : Heap} {E' : Value → Shared → Prop} (I : Inv X pins σ H s) (hs : X.stack = X.env :: X.outer) (hf : X.env.frame = some X.env.locals) (hex : X.ex = []) (made : s.heap.MadeExcOf h1 x (.ref C) []) (hE : E (.ref C) .none H) :
    wpAny (model X.prog X.w) X.A (leaving X.env (.ref x)) (fun _ s'' => CX1 X.prog X.w X.outer X.H₀ X.s₀ E (.ref x) s'') E' { s with heap := h1 } := by
  have ff0 := I.stack
  have k0 : Kp (frs X.stack) [] s.heap h1 := Kp.kept made.keeps
  have ff : h1.FunFrames X.base (X.env :: X.outer) := by
    rw [← hs]
    exact ff_kp ff0 fun b hb o e => k0.f b o e hb (by simp)
  obtain ⟨t, ex, _⟩ := made.there
  unfold leaving
  refine wpAny_bind (note_new (s := { s with heap := h1 }) (by rw [I.ok.frames, hs]) ff hf ⟨_, _, ex, rfl, rfl, rfl, rfl⟩ fun h2 T k1 t1 t2 F => ?_)
  refine flight_none (s := { s with heap := h2 }) t2 F fun h3 k2 F3 => ?_
  rw [← hs] at k1 k2 t2
  have sT : s.heap.get? T = .none := by
    cases q : s.heap.get? T with
    | none => rfl
    | some o => rw [made.keeps _ _ q] at t1; cases t1
  have kk : Kp (frs X.stack) [] s.heap h3 := ((k0.mono (ch' := [x, T]) (by simp)).trans ((k1.mono (by simp)).trans (k2.mono (by simp)))).drop (by
    intro b hb
    rcases List.mem_cons.mp hb with z | z
    · rw [z]; exact made.new
    · have z : b = T := by simpa using z
      rw [z]; exact sT)
  have none0 : ∀ b, s.heap.get? b = .none → X.s₀.heap.get? b = .none := fun b e => by
    cases q : X.s₀.heap.get? b with
    | none => rfl
    | some o =>
      obtain ⟨o', z⟩ := I.base.there b o q (by rw [hex]; simp)
      rw [e] at z
      cases z
  have neL : ∀ b o, X.s₀.heap.get? b = some o → b ≠ X.env.locals := fun b o e => Nat.ne_of_lt (Nat.lt_of_lt_of_le (Heap.lt_size e) I.ok.above)
  refine ⟨x, T, C, H, rfl, I.os, I.bare, ⟨fun b o e hn nb _ => ?_, fun b o e hn hb _ => ?_, fun b o e hn hx => I.base.free b o e hn (by rw [hex]; simp), fun b o e _ => ?_, I.base.tups, I.base.frzs, I.base.tbls⟩, I.hokK kk (by simp), none0 x made.new, none0 T sT, HOk.none I.hok made.new, HOk.none I.hok sT, F3, hE⟩
  · have e1 := I.base.keep b o e hn nb (by rw [hex]; simp)
    exact kk.k b o e1 (fun z => by
      rcases (frs_stack hs hf).mp z with z | z
      · exact neL b o e z
      · exact nb z) (by simp)
  · obtain ⟨sl, e1⟩ := I.base.slot b o e hn hb (by rw [hex]; simp)
    obtain ⟨sl', e2⟩ := kk.f b _ e1 ((frs_stack hs hf).mpr (.inr hb)) (by simp)
    exact ⟨sl', e2⟩
  · obtain ⟨o', e1⟩ := I.base.there b o e (by rw [hex]; simp)
    obtain ⟨sl, e2⟩ := kk.any e1 (by simp)
    exact ⟨_, e2⟩
/-- raise C(), C right under D, without an __init__ -/
theorem ps_raise0 {P : Program} {w : World} {K : PySem.W.Frag} {mg : Str → Option Value} {base : Heap} {N : List Str} {qual : Str} {scope : Scope} {f : Addr} {cd : Value} {A : Around} {outer : List Env} {s : Shared} {H : Hp} {E : XK}
    {nm : Str} {C D : Addr} {np cpos pos : Pos} (hg : Gl (cxOf (CX1 P w) P w K mg base N qual scope f cd A outer s H E) nm) (hm : mg nm = some (.ref C)) (M : XMk K C D .none) (hdb : (nm == ("__debug__" : Str)) = false := by decide) :
    PS (cxOf (CX1 P w) P w K mg base N qual scope f cd A outer s H E) (.Raise (some (.Call (.Name nm np) [] [] cpos)) .none pos) (fun _ _ H1 => E (.ref C) .none H1) := by
  intro pins s1 σ H1 D' I h
  obtain ⟨nm', q, Nn, bs, hdct, sn, sub, ab, col, dd, k0, k1, k2, k3, k5, Bn, newId, inN, bmN, eb, hc, hl, tx, ni⟩ := M.cls
  have hh : (A.deeper (envOfC qual scope s.heap.objs.size f cd)).handled = .none := I.ok.hd rfl
  have kin := I.kIn
  obtain ⟨mN, hN⟩ := ns_of_text kin tx
  refine wpAny_Raise_call_subU (nm := nm') (q := q) (bs := bs) (hdct := hdct) (sn := sn) (sub := sub) (ab := ab) (col := col) (dd := dd) (k0 := k0) (k1 := k1) (k2 := k2) (k3 := k3) (k5 := k5) (C := C) (N := Nn) (bm := .ref D :: veB) (bmB := veB) (mN := mN) eb hc PySem.F.excBase_ValueError (by rw [List.contains_cons, show veB.contains (Value.type "BaseException") = true by decide, Bool.or_true]) hh rfl (ns_at kin hN ni) ?_
  refine thn (pe_glob (v := .ref C) hg hm rfl hdb pins s1 σ H1 (fun v H2 => v = .ref C ∧ H2 = H1) I ⟨rfl, rfl⟩) ?_
  rintro u s2 ⟨v, H2, I2, r, rfl, rfl⟩
  cases r
  refine ⟨rfl, ?_⟩
  refine wpAny_pure ⟨rfl, Nat.zero_le _, ?_, ?_, M.tail I2.kIn, fun h' x made => ?_⟩
  · exact I2.kIn _ _ hl
  · obtain ⟨o', lk⟩ : ∃ o', K.lookup Nn = some o' := by
      cases hk : K.lookup Nn with
      | none => unfold textKeys at tx; rw [hk] at tx; cases tx
      | some o' => exact ⟨o', rfl⟩
    obtain ⟨o, es, ep, ho, r⟩ := hN
    have e1 : s1.heap.get? Nn = some o' := kin _ _ lk
    rw [e1] at ho
    cases ho
    exact ⟨_, es, ep, I2.kIn _ _ lk, r⟩
  · exact leave_made I2 rfl rfl rfl made h
end
end L2
namespace L2
open PySem PySem.Spec PyProof.Rows PySem.W
/-- an address that this body has nothing at -/
structure Away (X : Cx) (pins : List (Addr × Obj)) (x : Addr) : Prop where
  s0 : X.s₀.heap.get? x = .none
  loc : x ≠ X.env.locals
  cel : ∀ y c, X.env.cells.lookup y = some c → c ≠ x
  pin : ∀ p ∈ X.pn ++ pins, p.1 ≠ x
  fr : x ∉ frs X.stack
section
variable {X : Cx} {pins : List (Addr × Obj)} {σ : St} {H : Hp} {s : Shared} {x : Addr}
theorem Inv.away (I : Inv X pins σ H s) (hex : X.ex = []) (e : s.heap.get? x = .none) : Away X pins x where
  s0 := by
    cases q : X.s₀.heap.get? x with
    | none => rfl
    | some o =>
      obtain ⟨o', z⟩ := I.base.there x o q (by rw [hex]; simp)
      rw [e] at z; cases z
  loc := fun z => by
    obtain ⟨m, ⟨o, es, ep, ho, _⟩, _⟩ := I.loc
    rw [← z, e] at ho; cases ho
  cel := fun y c hc z => by
    obtain ⟨v, o, ho, _⟩ := I.cell y c hc
    rw [z, e] at ho; cases ho
  pin := fun p hp z => by
    have := (I.pin p hp).1
    rw [z, e] at this; cases this
  fr := fun z => by
    obtain ⟨_, o, ho, _⟩ := I.stack.mem z
    rw [e] at ho; cases ho
theorem Inv.nopins (I : Inv X pins σ H s) : Inv X [] σ H s := ⟨I.ok, I.os, I.bare, I.base, I.loc, I.cell, I.free, I.freeC, fun p hp => I.pin p (by simp at hp ⊢; exact .inl hp), I.hok, I.len⟩
theorem Inv.move (I : Inv X pins σ H s) (hs : X.stack = X.env :: X.outer) (hf : X.env.frame = some X.env.locals) (hex : X.ex = []) {h' : Heap} {H' : Hp} {ch : List Addr} (aw : ∀ b ∈ ch, Away X pins b) (k : Kp (frs X.stack) ch s.heap h') (hn : ∀ b, b ∉ ch → H' b = H b) (hc : ∀ b ∈ ch, H b = .none)
    (hok : HOk X.prog X.w H' h') : Inv X pins σ H' { s with heap := h' } := by
  have ns0 : ∀ b o, X.s₀.heap.get? b = some o → b ∉ ch := fun b o e z => by rw [(aw b z).s0] at e; cases e
  have neL : ∀ b o, X.s₀.heap.get? b = some o → b ≠ X.env.locals := fun b o e => Nat.ne_of_lt (Nat.lt_of_lt_of_le (Heap.lt_size e) I.ok.above)
  have nch : ∀ b u, H b = some u → b ∉ ch := fun b u e z => by rw [hc b z] at e; cases e
  have lnc : X.env.locals ∉ ch := fun z => (aw _ z).loc rfl
  have cell : ∀ y c v, X.env.cells.lookup y = some c → s.heap.IsCell c v → h'.IsCell c v := fun y c v hy ⟨o, ho, hd⟩ => by
    obtain ⟨sl, e⟩ := k.any ho (fun z => (aw c z).cel y c hy rfl)
    exact ⟨_, e, hd⟩
  refine ⟨I.ok, I.os, I.bare, ⟨fun b o e n nb nx => ?_, fun b o e n hb nx => ?_, fun b o e n nx => ?_, fun b o e nx => ?_, fun b xs e => ?_, fun b o u e => ?_, fun b ps e => ?_⟩, ?_, fun y c hy => ?_, ?_, fun y c hy => ?_, fun p hp => ?_, hok, I.len⟩
  · exact k.k b o (I.base.keep b o e n nb nx) (fun z => by
      rcases (frs_stack hs hf).mp z with z | z
      · exact neL b o e z
      · exact nb z) (ns0 b o e)
  · obtain ⟨sl, e1⟩ := I.base.slot b o e n hb nx
    obtain ⟨sl', e2⟩ := k.f b _ e1 ((frs_stack hs hf).mpr (.inr hb)) (ns0 b o e)
    exact ⟨sl', e2⟩
  · rw [hn b (ns0 b o e)]; exact I.base.free b o e n nx
  · obtain ⟨o', e1⟩ := I.base.there b o e nx
    obtain ⟨sl, e2⟩ := k.any e1 (ns0 b o e)
    exact ⟨_, e2⟩
  · have q := I.base.tups b xs e
    rw [hn b (nch b _ q)]; exact q
  · have q := I.base.frzs b o u e
    rw [hn b (nch b _ q)]; exact q
  · obtain ⟨more, q⟩ := I.base.tbls b ps e
    exact ⟨more, by rw [hn b (nch b _ q)]; exact q⟩
  · obtain ⟨m, ⟨o, es, ep, ho, r⟩, lk⟩ := I.loc
    obtain ⟨sl, e⟩ := k.any ho lnc
    refine ⟨m, ⟨_, es, ep, e, r⟩, fun i y v h1 h2 h3 => ?_⟩
    obtain ⟨u, ru, l⟩ := lk i y v h1 h2 h3
    refine ⟨u, ru, ?_⟩
    rcases l with l | ⟨l1, c, l2, l3⟩
    · exact .inl l
    · exact .inr ⟨l1, c, l2, cell y c _ l2 l3⟩
  · obtain ⟨v, hv⟩ := I.cell y c hy
    exact ⟨v, cell y c v hy hv⟩
  · rw [hn _ lnc]; exact I.free
  · rw [hn c fun z => (aw c z).cel y c hy rfl]; exact I.freeC y c hy
  · obtain ⟨p1, p2, p3, p4, p5⟩ := I.pin p hp
    have pc : p.1 ∉ ch := fun z => (aw _ z).pin p hp rfl
    refine ⟨k.k _ _ p1 (fun z => ?_) pc, by rw [hn _ pc]; exact p2, p3, p4, p5⟩
    rcases (frs_stack hs hf).mp z with z | z
    · exact p3 z
    · exact p4 z
/-- the name at i is gone -/
theorem Inv.unset {i : Nat} {n : Str} {h' : Heap} {u : Option Value} {m : Str → Option Value} (I : Inv X pins σ H s) (hN : X.N.Nodup) (hi : X.N[i]? = some n) (hl : X.env.kindOf n = some .local) (lk : ∀ (i : Nat) (x : Str) (v : V), X.N[i]? = some x → σ[i]? = some (some v) → Vis X.env.scope x → ∃ u, RelV v u ∧ Look X.env s.heap m x u)
    (ns : h'.Ns X.env.locals (fun x => if x = n then u else m x)) (sb : Heap.SameBut X.env.locals s.heap h') : Inv X pins (σ.set i .none) H { s with heap := h' } := by
  have kp : ∀ b o, b ≠ X.env.locals → s.heap.get? b = some o → h'.get? b = some o := fun b o hb e => (sb.2 b hb).trans e
  have neL : ∀ b o, X.s₀.heap.get? b = some o → b ≠ X.env.locals := fun b o e => Nat.ne_of_lt (Nat.lt_of_lt_of_le (Heap.lt_size e) I.ok.above)
  have cell : ∀ c v, s.heap.IsCell c v → h'.IsCell c v := fun c v ⟨o, ho, hd⟩ => ⟨o, kp c o (fun z => by
    obtain ⟨m', ⟨o', es, ep, ho', hd', _⟩, _⟩ := I.loc
    rw [z, ho'] at ho
    cases ho
    rw [hd'] at hd
    cases hd) ho, hd⟩
  refine ⟨I.ok, I.os, I.bare, ⟨fun b o e n nb nx => kp b o (neL b o e) (I.base.keep b o e n nb nx), fun b o e n hb nx => ?_, I.base.free, fun b o e nx => ?_, I.base.tups, I.base.frzs, I.base.tbls⟩, ⟨_, ns, fun j y v h1 h2 h3 => ?_⟩, fun y c hy => ?_, I.free, I.freeC, fun p hp => ?_, fun b v e => ?_, by rw [List.length_set]; exact I.len⟩
  · obtain ⟨sl, e1⟩ := I.base.slot b o e n hb nx
    exact ⟨sl, kp b _ (neL b o e) e1⟩
  · obtain ⟨o', e1⟩ := I.base.there b o e nx
    exact ⟨o', kp b o' (neL b o e) e1⟩
  · by_cases c : j = i
    · subst c
      rw [List.getElem?_set_self'] at h2
      cases hq : σ[j]? with
      | none => rw [hq] at h2; cases h2
      | some z => rw [hq] at h2; cases h2
    · rw [List.getElem?_set_ne (fun z => c z.symm)] at h2
      obtain ⟨w', rw', l⟩ := lk j y v h1 h2 h3
      refine ⟨w', rw', ?_⟩
      rcases l with ⟨l1, l2⟩ | ⟨l1, cc, l2, l3⟩
      · refine .inl ⟨l1, ?_⟩
        show (if y = n then u else m y) = some w'
        rw [if_neg (show ¬ y = n from fun z => c ?_)]
        · exact l2
        · rw [z] at h1
          have a1 := (List.getElem?_eq_some_iff.mp h1)
          have a2 := (List.getElem?_eq_some_iff.mp hi)
          exact (List.getElem_inj hN).mp (a1.2.trans a2.2.symm)
      · exact .inr ⟨l1, cc, l2, cell cc _ l3⟩
  · obtain ⟨v, hv⟩ := I.cell y c hy
    exact ⟨v, cell c v hv⟩
  · obtain ⟨p1, p2, p3, p4, p5⟩ := I.pin p hp
    exact ⟨kp _ _ p3 p1, p2, p3, p4, p5⟩
  · refine (I.hok b v e).stay (fun c o hc q => kp c o ?_ q) (fun c q => q) fun c xs q => q
    rcases hc with z | z
    · rw [z]; intro z2; rw [z2, I.free] at e; cases e
    · intro z2; rw [z2, I.free] at z; cases z
/-- within an except suite -/
abbrev Cx.hand (X : Cx) (x : Addr) : Cx := { X with A := X.A.mark (some (.ref x)), calm := false, xe := fun _ _ => False }
theorem Inv.hand (I : Inv X pins σ H s) (x : Addr) : Inv (X.hand x) pins σ H s :=
  ⟨⟨I.ok.mod, I.ok.kind, I.ok.glob, I.ok.blt, I.ok.above, I.ok.inj, I.ok.has, I.ok.cab, (fun z => nomatch z), I.ok.frames, I.ok.stk, I.ok.exf, I.ok.bs, I.ok.bsz, I.ok.noex, I.ok.exfs, I.ok.funs, I.ok.frf⟩, I.os, I.bare, I.base, I.loc, I.cell, I.free, I.freeC, I.pin, I.hok, I.len⟩
theorem Inv.unhand {x : Addr} (ok : X.Ok) (I : Inv (X.hand x) pins σ H s) : Inv X pins σ H s := ⟨ok, I.os, I.bare, I.base, I.loc, I.cell, I.free, I.freeC, I.pin, I.hok, I.len⟩
end
/-- the parent class D, as a class that catches -/
structure XUp (K : PySem.W.Frag) (D : Addr) : Prop where
  ty : typeIn K (.ref D) = some (.type "type")
  cl : (clsIn K D).isSome = true
  be : subIn K (.ref D) (.type "BaseException") = some true
theorem type_tuple {K : PySem.W.Frag} : subIn K (.type "type") (.type "tuple") = some false := by
  show Option.map _ (fastBuiltinMro "type") = _
  decide +kernel
theorem cls_isT {M : Model} {K : PySem.W.Frag} {h : Heap} {D : Addr} (c : (clsIn K D).isSome = true) (X : K.In h) : Looks M h (isType (.ref D)) true := by
  obtain ⟨cd, hc⟩ := Option.isSome_iff_exists.mp c
  unfold clsIn at hc
  split at hc
  · rename_i ho
    intro A' Q' E' s' k q
    unfold isType loadHead
    exact wpAny_bind (wpAny_loadPart (k _ _ (X _ _ ho)) (wpAny_pure q))
  · cases hc
theorem exc_up {M : Model} {A : Around} {E : Value → Shared → Prop} {s : Shared} {K : PySem.W.Frag} {x C D : Addr} {tb : Value} {Q : Bool → Shared → Prop} (kin : K.In s.heap) (U : XUp K D) (W : XOver K C D) (e : ExcAt s.heap x C tb) (q : Q true s) : wpAny M A (excMatches (.ref x) (.ref D)) Q E s := by
  obtain ⟨o, vs, e1, e2, e3, e4, e5⟩ := e
  have J : InstAt s.heap x o C .none := ⟨e1, e2, by unfold notCls; rw [e4], by rw [e3]; trivial⟩
  unfold excMatches
  refine wpAny_bind ?_
  unfold isInstance
  refine wpAny_bind ((looks_typeIn kin U.ty).here ((looks_subIn kin type_tuple).here ?_))
  rw [if_neg (by simp)]
  refine wpAny_bind (wpAny_pure ?_)
  refine wpAny_bind ?_
  rw [List.forIn_cons]
  refine wpAny_bind ?_
  unfold isExcClass
  refine wpAny_bind (wpAny_bind ((cls_isT U.cl kin).here ?_))
  rw [if_pos rfl]
  refine (looks_subIn kin U.be).here ?_
  rw [if_neg (by simp)]
  refine wpAny_pure ?_
  dsimp only
  rw [List.forIn_nil]
  refine wpAny_pure (wpAny_bind (J.type.here ?_))
  refine wpAny_bind ?_
  rw [List.forIn_cons]
  refine wpAny_bind (wpAny_bind ((looks_subIn kin (W.subIn (.ref D))).here ?_))
  rw [if_pos (by simp [veMro])]
  exact wpAny_pure (wpAny_pure (wpAny_pure q))
end L2
namespace L2
open PySem PySem.Spec PyProof.Rows PySem.W
section
variable {X : Cx}
/-- a statement, a block, where nothing is pinned -/
def PS0 (X : Cx) (st : Stmt) (t : TS) : Prop := ∀ (s : Shared) (σ : St) (H : Hp) (D : Ends), Inv X [] σ H s → t D σ H → wpAny (model X.prog X.w) X.A (exec st X.env) (SP X [] D) X.xe s
def PSs0 (X : Cx) (st : List Stmt) (t : TS) : Prop := ∀ (s : Shared) (σ : St) (H : Hp) (D : Ends), Inv X [] σ H s → t D σ H → wpAny (model X.prog X.w) X.A (execs st X.env) (SP X [] D) X.xe s
theorem PS.p0 {st : Stmt} {t : TS} (h : PS X st t) : PS0 X st t := fun s σ H D I q => h [] s σ H D I q
theorem PSs.p0 {st : List Stmt} {t : TS} (h : PSs X st t) : PSs0 X st t := fun s σ H D I q => h [] s σ H D I q
theorem p0_cons {st : Stmt} {rest : List Stmt} {t u : TS} (h1 : PS0 X st t) (h2 : PSs0 X rest u) : PSs0 X (st :: rest) (tSeq t u) := by
  intro s σ H D I h
  refine wpAny_execs_cons (thn (h1 s σ H { D with nx := u D } I h) fun f s1 q => ?_)
  cases f with
  | next =>
    obtain ⟨σ', H', I', q⟩ := q
    exact h2 s1 σ' H' D I' q
  | ret v => exact q
  | brk => exact q
  | cont => exact q
theorem PSs0.nox {st : List Stmt} {t : TS} (h : PSs0 X.nox st t) : PSs0 X st t := fun s σ H D I q =>
  wpAny_mono (h s σ H D (I.wish _) q) (fun f s' z => SP.unwish z) fun _ _ z => z.elim
/-- try: body, except D as n: suite (the suite never breaks and never continues) -/
def tTry (K : PySem.W.Frag) (D : Addr) (i l : Nat) (tb : XK → TS) (th : TS) : TS := fun Dn σ H =>
  tb (fun cls _ H' => ∃ C, cls = .ref C ∧ XOver K C D ∧ ∀ (σ' : St) (x : Addr), σ'.length = l → H' x = .none →
    th { nx := fun σ2 H2 => Dn.nx (σ2.set i .none) H2, rt := Dn.rt } (σ'.set i (some (.ref x))) (upd H' x (XN x C))) Dn σ H
theorem ps0_try {i : Nat} {n nmT : Str} {D : Addr} {body suite : List Stmt} {b0 : Stmt} {np hpos pos : Pos} {tb : XK → TS} {th : TS} (hs : X.stack = X.env :: X.outer) (hf : X.env.frame = some X.env.locals) (hex : X.ex = []) (hN : X.N.Nodup) (hi : X.N[i]? = some n)
    (hl : X.env.scope.names.lookup n = some .local) (hk : X.env.kindOf n = some .local) (hg : Gl X nmT) (hm : X.mg nmT = some (.ref D)) (U : XUp X.K D)
    (hb : ∀ (Ex : Value → Shared → Prop) (E1 : XK), Passes (CX1 X.prog X.w) (X.wish Ex) E1 → PSs (X.wish Ex) body (tb E1)) (hh : ∀ x, PSs (X.hand x) (b0 :: suite) th) (hdb : (nmT == ("__debug__" : Str)) = false := by decide) :
    PS0 X (.Try body [.ExceptHandler (some (.Name nmT np)) (some n) (b0 :: suite) hpos] [] [] pos) (tTry X.K D i X.N.length tb th) := by
  intro s σ H Dn I h
  have kf := I.ok.kind
  refine wpAny_Try_except ?_
  refine wpAny_mono (hb (fun e s₁ => wpAny (model X.prog X.w) X.A (noteFrame e X.env) (fun _ s₂ => wpAny (model X.prog X.w) X.A (setFlight e .none) (fun _ s₃ => wpAny (model X.prog X.w) X.A (handleBy e X.env [.ExceptHandler (some (.Name nmT np)) (some n) (b0 :: suite) hpos]) (SP X [] Dn) X.xe s₃) X.xe s₂) X.xe s₁) _ ?_ [] s σ H Dn (I.wish _) h) (fun f s1 q => ?_) fun _ _ z => z
  · intro pins' σ' H1 s1 e s2 I1 cx
    obtain ⟨x, T, C, H2, rfl, os, bare, un, hok, nx, nT, hx, hT, F, C', eC, W, q⟩ := cx
    cases eC
    have J1 : Inv X [] σ' H1 s1 := I1.unwish.nopins
    have ax := J1.away hex nx
    have aT := J1.away hex nT
    have J2 : Inv X [] σ' H2 s2 := J1.call' os un hok bare fun b z => absurd z (by simp)
    have fr2 := J2.stack
    rw [hs] at fr2
    have tf := aT.fr
    rw [hs] at tf
    show wpAny _ _ (noteFrame (.ref x) X.env) _ _ s2
    refine note_on (s := s2) (outer := X.outer) (by rw [J2.ok.frames, hs]) fr2 hf tf F fun h3 T3 k3 t3 t3' F3 => ?_
    refine flight_none (s := { s2 with heap := h3 }) t3' F3 fun h4 k4 F4 => ?_
    have a3 := J2.away hex t3
    rw [← hs] at k3 k4
    have k34 : Kp (frs X.stack) [x, T, T3] s2.heap h4 := (k3.mono (by simp)).trans (k4.mono (by simp))
    have hT3 : H2 T3 = .none := HOk.none J2.hok t3
    have cl : ∀ b ∈ [x, T, T3], H2 b = .none := fun b hb => by
      simp only [List.mem_cons, List.not_mem_nil, or_false] at hb
      rcases hb with rfl | rfl | rfl
      · exact hx
      · exact hT
      · exact hT3
    have aw : ∀ b ∈ [x, T, T3], Away X [] b := fun b hb => by
      simp only [List.mem_cons, List.not_mem_nil, or_false] at hb
      rcases hb with rfl | rfl | rfl
      · exact ax
      · exact aT
      · exact a3
    have J4 : Inv X [] σ' H2 { s2 with heap := h4 } := J2.move hs hf hex aw k34 (fun b _ => rfl) cl (J2.hokK k34 cl)
    refine wpAny_handleBy_cons ?_ (fun z => nomatch z)
    refine codeAny_handlers_test (ld_glob (X := X.hand x) (J4.hand x) hg hm ?_ hdb)
    refine exc_up J4.kIn U W F4.1 ?_
    refine codeAny_handlers_suite_as ?_
    refine flight_none (s := { s2 with heap := h4 }) (fs := frs X.stack) a3.fr F4 fun h5 k5 F5 => ?_
    have J5 : Inv X [] σ' H2 { s2 with heap := h5 } := J4.move hs hf hex (ch := [T3]) (fun b hb => aw b (by simp at hb ⊢; exact .inr (.inr hb))) k5 (fun b _ => rfl) (fun b hb => cl b (by simp at hb ⊢; exact .inr (.inr hb))) (J4.hokK k5 fun b hb => cl b (by simp at hb ⊢; exact .inr (.inr hb)))
    obtain ⟨⟨o, vs, e1, e2, e3, e4, e5⟩, _⟩ := F5
    have xn : ∃ o, h5.get? x = some o ∧ o.cls = .ref C ∧ notCls o = true ∧ o.dict = .none := ⟨o, e1, e2, by unfold notCls; rw [e4], e3⟩
    have hok6 : HOk X.prog X.w (upd H2 x (XN x C)) h5 := fun b u eb => by
      by_cases c : b = x
      · subst c
        rw [upd_same] at eb
        cases eb
        exact xn_ok xn
      · rw [upd_ne c] at eb
        refine (J5.hok b u eb).stay (fun _ _ _ q => q) (fun cc q => ?_) fun cc xs q => ?_
        · rw [upd_ne (fun z => by rw [z, hx] at q; cases q)]; exact q
        · rw [upd_ne (fun z => by rw [z, hx] at q; cases q)]; exact q
    have J6 : Inv X [] σ' (upd H2 x (XN x C)) { s2 with heap := h5 } := J5.move hs hf hex (ch := [x]) (fun b hb => aw b (by simp at hb ⊢; exact .inl hb)) (Kp.mono (Kp.kept fun _ _ e => e) (by simp)) (fun b hb => upd_ne (by simpa using hb)) (fun b hb => cl b (by simp at hb ⊢; exact .inl hb)) hok6
    refine store_ok (v := .ref x) J6 hN hi (.inl hl) rfl (fun s7 J7 => ?_) (.inr hl)
    refine wpAny_mono (hh x [] s7 _ _ _ (J7.hand x) (q σ' x J6.len hx)) (fun f s8 q8 => ?_) fun _ _ z => z.elim
    have done : ∀ (σ2 : St) (H8 : Hp), Inv X [] σ2 H8 s8 → ∀ {Q : Unit → Shared → Prop} {E : Value → Shared → Prop}, (∀ s9, Inv X [] (σ2.set i .none) H8 s9 → Q () s9) → wpAny (model X.prog X.w) X.A (do bindName X.env n Value.none; unbindBehindTheSuite X.env n hpos) Q E s8 := fun σ2 H8 J8 Q E q9 => by
      refine wpAny_bind (wpAny_bindName (store_ok (v := .non) J8 hN hi (.inl hl) rfl (fun s9 J9 => ?_) (.inr hl)))
      unfold unbindBehindTheSuite
      obtain ⟨m, hm9, lk⟩ := J9.loc
      have il : i < σ2.length := by rw [J8.len]; exact (List.getElem?_eq_some_iff.mp hi).1
      obtain ⟨u, ru, lk1⟩ := lk i n .non hi (by rw [List.getElem?_set_self il]) (.inl hl)
      have mn : m n = some u := by
        rcases lk1 with ⟨_, z⟩ | ⟨z, _⟩
        · exact z
        · rw [hk] at z
          rcases z with z | z <;> cases z
      refine wpAny_onRaise (wpAny_unbindName_local hk hm9 mn (by rw [kf]; rfl) fun h9 u9 ns9 sb9 => ?_)
      have := J9.unset hN hi hk lk ns9 sb9
      rw [List.set_set] at this
      exact q9 _ this
    cases f with
    | next =>
      obtain ⟨σ2, H8, J8, z⟩ := q8
      exact done σ2 H8 (J8.unhand J6.ok) fun s9 J9 => ⟨_, H8, J9, z⟩
    | ret v =>
      obtain ⟨w', σ2, H8, J8, r, z⟩ := q8
      exact done σ2 H8 (J8.unhand J6.ok) fun s9 J9 => ⟨w', _, H8, J9, r, z⟩
    | brk =>
      obtain ⟨_, _, _, z⟩ := q8
      exact z.elim
    | cont =>
      obtain ⟨_, _, _, z⟩ := q8
      exact z.elim
  · have q := SP.unwish q
    cases f with
    | next => exact wpAny_execs_nil q
    | ret v => exact q
    | brk => exact q
    | cont => exact q
end
end L2
namespace L2
open PySem PySem.Spec PyProof.Rows PySem.W
theorem kitAny_no {K : PySem.W.Frag} {t : Value} : ∀ {its : List Value}, (∀ c ∈ its, kitOne K t c = some false) → kitAny K t its = some false
  | [], _ => rfl
  | c :: r, h => by
    have h1 := h c List.mem_cons_self
    have h2 := kitAny_no fun x hx => h x (List.mem_cons_of_mem _ hx)
    simp [kitAny, h1, h2]
theorem vals_refs : ∀ {cs : List Addr} {us : List Value}, Vals (cs.map V.ref) us → us = cs.map Value.ref
  | [], _, .nil => rfl
  | c :: cs, _, .cons r t => by
    have r : _ = Value.ref c := r
    rw [vals_refs t, r]
    rfl
/-- isinstance(e, (C1, C2, ..)), e of none of them -/
theorem call_isN {X : Cx} : CallR X (.builtin "isinstance") (fun xs H Q => ∃ (a p C D : Addr) (cs : List Addr), xs = [.ref a, .ref p] ∧ SqT X.K H p (cs.map V.ref) ∧ XAt H a C ∧ XOver X.K C D ∧ XIs X.K C ∧ (∀ c ∈ cs, kitOne X.K (.ref C) (.ref c) = some false) ∧ Q (.bl false) H) := by
  intro pins s σ H xs us Q I r h
  obtain ⟨a, p, C, D, cs, rfl, hq, x, W, Z, no, q⟩ := h
  obtain ⟨u, w', rfl, ru, rw'⟩ := vals2 r
  cases ru
  cases rw'
  obtain ⟨its, rv, ⟨⟨cls, dd, data, sl⟩, ho, hc, n, hd⟩, _⟩ := I.tuple hq
  simp only at hc hd
  subst hc hd
  have e := vals_refs rv
  subst e
  refine kia_tup (kitx_x W Z) I.kIn (x_inst I x) ho (kitAny_no fun c hc => ?_) (fun z => nomatch z) fun tk => ⟨.bl false, H, I.tok tk, rfl, q⟩
  obtain ⟨c', hc', rfl⟩ := List.mem_map.mp hc
  exact no c' hc'
/-! ### defs that are called within an except suite -/
structure RoomH (k : Nat) (A : Around) : Prop where
  dp : A.depth + 3 * k + 5 < recursionLimit
  un : A.units + 16 * k + 200 < cLine
theorem Room.h {k : Nat} {A : Around} (r : Room k A) (e : Option Value) : RoomH k (A.mark e) := ⟨r.dp, r.un⟩
structure FnOkH (P : Program) (w : World) (K : PySem.W.Frag) (mg : Str → Option Value) (base : Heap) (k : Nat) (f : Addr) (fd : FuncData) (ps : List Str) (sp : Sp) : Prop where
  len : ∀ vs H Q E, sp vs H Q E → vs.length = ps.length
  run : ∀ (A : Around) (outer : List Env) (s : Shared) (H : Hp) (args : Args) (us : List Value) (vs : List V) (Q : VK) (E : XK), RoomH k A → Env0 P w K mg base A outer s H → BindsTo s fd args (ps.zip us) → Vals vs us → sp vs H Q E →
    codeAny (model P w) A (.call (.ref f) args) (CR CX0 outer P w H s Q E) s
/-- the context of a def's body that runs within an except suite -/
abbrev cxH (P : Program) (w : World) (K : PySem.W.Frag) (mg : Str → Option Value) (base : Heap) (N : List Str) (qual : Str) (scope : Scope) (f : Addr) (cd : Value) (A : Around) (outer : List Env) (s : Shared) (H : Hp) (E : XK) : Cx :=
  { cxOf CX0 P w K mg base N qual scope f cd A outer s H E with calm := false, xe := fun _ _ => False }
section
variable {P : Program} {w : World} {K : PySem.W.Frag} {mg : Str → Option Value} {base : Heap}
theorem Fun.okH {x qual : Str} {st : Stmt} {f : Addr} {fd : FuncData} {N ps : List Str} {k : Nat} {sp : Sp} (F : Fun K x qual st f fd) (S : FnScope N ps (defScope st)) (len : ∀ vs H Q E, sp vs H Q E → vs.length = ps.length)
    (hbody : ∀ (cdv : Value) (A : Around) (outer : List Env) (s : Shared) (H : Hp) (vs : List V) (Q : VK) (E : XK), sp vs H Q E →
      ∃ t, PSs (cxH P w K mg base N qual (defScope st) f cdv A outer s H E) (defBody st) t ∧ t { nx := fun _ H' => Q .non H', rt := Q } (start N vs) H) : FnOkH P w K mg base (k + 1) f fd ps sp := by
  obtain ⟨oc, od, kV, doc, pm, an, cdv, ct, osl, rfl, lk, hcd⟩ := F.ex
  refine ⟨len, fun A outer s H args us vs Q E hr e0 hb r hsp => ?_⟩
  have hl := len _ _ _ _ hsp
  have KX : K.In s.heap := e0.mod.kin.keeps fun b o e => (e0.bs b o e).1
  have lim : s.heap.NoLimit := e0.mod.nolimit.keeps fun b o e => (e0.bs b o e).1
  have hkind : ∀ y ∈ ps.zip us, (defScope st).names.lookup y.1 = some .local ∨ ((defScope st).names.lookup y.1 = some .cell ∧ ((cellsFrom (s.heap.objs.size + 1) (defScope st).names []).lookup y.1).isSome = true) := fun ⟨n, v⟩ hy => by
    rcases S.par n (List.of_mem_zip hy).1 with q | q
    · exact .inl q
    · exact .inr ⟨q, PySem.W.cellsFrom_some _ _ _ (.inl q)⟩
  refine codeAny_call_function (by have := hr.dp; omega) (KX _ _ lk) rfl S.co S.gen rfl (PySem.W.codeRec_of KX hcd) (hb _ _ _ _ ?_)
  refine wpAny_newFunctionEnv_cells S.kind hkind fun env he s1 x => ?_
  subst he
  refine ⟨lim.keeps x.toInCall.keep, codeAny_func ?_⟩
  obtain ⟨t, ht, hq⟩ := hbody cdv A outer s H vs Q E hsp
  have J := inv_start (CX := CX0) (E := E) (A := { A with handled := .none }) S rfl (⟨e0.frames, e0.mod, e0.bs, e0.bsz, e0.funs, e0.frf, e0.hok, e0.bare⟩ : Env0 P w K mg base { A with handled := .none } outer s H) hl r x
  have I : Inv (cxH P w K mg base N qual (defScope st) f cdv A outer s H E) [] (start N vs) H s1 :=
    ⟨⟨J.ok.mod, J.ok.kind, J.ok.glob, J.ok.blt, J.ok.above, J.ok.inj, J.ok.has, J.ok.cab, (fun z => nomatch z), Around.frames_deeper e0.frames, J.ok.stk, J.ok.exf, J.ok.bs, J.ok.bsz, J.ok.noex, J.ok.exfs, J.ok.funs, J.ok.frf⟩, J.os, J.bare, J.base, J.loc, J.cell, J.free, J.freeC, J.pin, J.hok, J.len⟩
  refine wpAny_mono (ht [] s1 (start N vs) H _ I hq) (fun fl s' hs => ?_) fun e s' hs => hs.elim
  have fin : ∀ {σ' : St} {H' : Hp} {v : V} {u : Value}, Inv (cxH P w K mg base N qual (defScope st) f cdv A outer s H E) [] σ' H' s' → RelV v u → Q v H' → CE outer P w H s Q u s' :=
    fun {σ' H' v u} J rv q => ⟨v, H', J.os, J.bare, J.base, J.hok, rv, q⟩
  cases fl with
  | ret u =>
    obtain ⟨v, σ', H', J, rv, q⟩ := hs
    exact fin J rv q
  | next =>
    obtain ⟨σ', H', J, q⟩ := hs
    exact fin (v := V.non) (u := Value.none) J rfl q
  | brk =>
    obtain ⟨_, _, _, q⟩ := hs
    exact False.elim q
  | cont =>
    obtain ⟨_, _, _, q⟩ := hs
    exact False.elim q
/-- a def whose exceptions fly on -/
theorem Fun.okX {x qual : Str} {st : Stmt} {f : Addr} {fd : FuncData} {N ps : List Str} {k : Nat} {sp : Sp} (F : Fun K x qual st f fd) (S : FnScope N ps (defScope st)) (len : ∀ vs H Q E, sp vs H Q E → vs.length = ps.length)
    (hbody : ∀ (cdv : Value) (A : Around) (outer : List Env) (s : Shared) (H : Hp) (vs : List V) (Q : VK) (E : XK), Room k (A.deeper (envOfC qual (defScope st) s.heap.objs.size f cdv)) → sp vs H Q E →
      ∃ t, PSs (cxOf (CX1 P w) P w K mg base N qual (defScope st) f cdv A outer s H E) (defBody st) t ∧ t { nx := fun _ H' => Q .non H', rt := Q } (start N vs) H) : FnOk P w K mg base (CX1 P w) (k + 1) f fd ps sp := by
  obtain ⟨oc, od, kV, doc, pm, an, cdv, ct, osl, rfl, lk, hcd⟩ := F.ex
  exact fn_of lk hcd S len fun A outer s H vs Q E hr hsp => hbody cdv A outer s H vs Q E hr hsp
/-- a def with a try: nothing is pinned at its entry -/
theorem Fun.ok0 {x qual : Str} {st : Stmt} {f : Addr} {fd : FuncData} {N ps : List Str} {k : Nat} {sp : Sp} (F : Fun K x qual st f fd) (S : FnScope N ps (defScope st)) (len : ∀ vs H Q E, sp vs H Q E → vs.length = ps.length)
    (hbody : ∀ (cdv : Value) (A : Around) (outer : List Env) (s : Shared) (H : Hp) (vs : List V) (Q : VK) (E : XK), Room k (A.deeper (envOfC qual (defScope st) s.heap.objs.size f cdv)) → sp vs H Q E →
      ∃ t, PSs0 (cxOf CX0 P w K mg base N qual (defScope st) f cdv A outer s H E).nox (defBody st) t ∧ t { nx := fun _ H' => Q .non H', rt := Q } (start N vs) H) : FnOk P w K mg base CX0 (k + 1) f fd ps sp := by
  obtain ⟨oc, od, kV, doc, pm, an, cdv, ct, osl, rfl, lk, hcd⟩ := F.ex
  refine ⟨len, fun A outer s H args us vs Q E hr e0 hb r hsp => ?_⟩
  have hl := len _ _ _ _ hsp
  have KX : K.In s.heap := e0.mod.kin.keeps fun b o e => (e0.bs b o e).1
  have lim : s.heap.NoLimit := e0.mod.nolimit.keeps fun b o e => (e0.bs b o e).1
  have hkind : ∀ y ∈ ps.zip us, (defScope st).names.lookup y.1 = some .local ∨ ((defScope st).names.lookup y.1 = some .cell ∧ ((cellsFrom (s.heap.objs.size + 1) (defScope st).names []).lookup y.1).isSome = true) := fun ⟨n, v⟩ hy => by
    rcases S.par n (List.of_mem_zip hy).1 with q | q
    · exact .inl q
    · exact .inr ⟨q, PySem.W.cellsFrom_some _ _ _ (.inl q)⟩
  refine codeAny_call_function hr.depth (KX _ _ lk) rfl S.co S.gen rfl (PySem.W.codeRec_of KX hcd) (hb _ _ _ _ ?_)
  refine wpAny_newFunctionEnv_cells S.kind hkind fun env he s1 x => ?_
  subst he
  refine ⟨lim.keeps x.toInCall.keep, codeAny_func ?_⟩
  obtain ⟨t, ht, hq⟩ := hbody cdv A outer s H vs Q E (hr.deeper _) hsp
  have I : Inv (cxOf CX0 P w K mg base N qual (defScope st) f cdv A outer s H E) [] (start N vs) H s1 := inv_start S hr.hd e0 hl r x
  refine wpAny_mono (ht.nox s1 (start N vs) H _ I hq) (fun fl s' hs => ?_) fun e s' hs => hs
  have fin : ∀ {σ' : St} {H' : Hp} {v : V} {u : Value}, Inv (cxOf CX0 P w K mg base N qual (defScope st) f cdv A outer s H E) [] σ' H' s' → RelV v u → Q v H' → CE outer P w H s Q u s' :=
    fun {σ' H' v u} J rv q => ⟨v, H', J.os, J.bare, J.base, J.hok, rv, q⟩
  cases fl with
  | ret u =>
    obtain ⟨v, σ', H', J, rv, q⟩ := hs
    exact fin J rv q
  | next =>
    obtain ⟨σ', H', J, q⟩ := hs
    exact fin (v := V.non) (u := Value.none) J rfl q
  | brk =>
    obtain ⟨_, _, _, q⟩ := hs
    exact False.elim q
  | cont =>
    obtain ⟨_, _, _, q⟩ := hs
    exact False.elim q
end
section
variable {X : Cx} {k : Nat} {f : Addr} {fd : FuncData} {ps : List Str} {sp : Sp} {x : Str} {p pos : Pos} {e : Expr} {es : List Expr} {t : TA}
/-- f(..) within an except suite -/
theorem pe_callH (F : FnOkH X.prog X.w X.K X.mg X.base k f fd ps sp) (hr : RoomH k X.A) (hg : Gl X x) (hm : X.mg x = some (.ref f)) (hk : PySem.W.keepIn X.K (.ref f) = true) (hb : Binds X.K fd ps [])
    (ha : PA X (e :: es) t) (hdb : (x == ("__debug__" : Str)) = false := by decide) (he : starEach (e :: es) X.env = (false, eval e X.env) :: starEach es X.env := by rfl) (hpl : (backTo pos (starEach es X.env)).any (·.1) = false := by rfl) :
    PE X (.Call (.Name x p) (e :: es) [] pos) (tCall sp [] E0 t) := by
  intro pins s σ H Q I h
  refine wpAny_Call_Name_kw (ld_glob I hg hm ?_ hdb)
  refine PySem.W.callWith_K (h₀ := X.base) I.ok.mod.kin hk (thn (ha pos pins s σ H _ I h) fun us s1 ⟨vs, H1, I1, r, q⟩ => ⟨I1.kIn, ?_⟩) he hpl
  have r2 : Vals (vs ++ []) (us ++ []) := r.append .nil
  have hl : (us ++ []).length = ps.length := by rw [← r2.length]; exact F.len _ _ _ _ q
  refine wpAny_call (codeAny_mono (F.run X.A X.stack s1 H1 ⟨us, []⟩ (us ++ []) (vs ++ []) Q E0 hr I1.env0 (hb s1 us I1.kIn hl) r2 q) fun r s' hq => ?_)
  cases r with
  | error e => exact hq.elim
  | ok fl =>
    cases fl with
    | ret u => exact I1.after hq
    | next => exact False.elim hq
    | brk => exact False.elim hq
    | cont => exact False.elim hq
end
end L2
namespace Mine
open PySem L2
def gI (a b : Int) : Int := (Nat.gcd a.toNat b.toNat : Nat)
def low1 (a b : Int) : Int := a / gI a b
def low2 (a b : Int) : Int := b / gI a b
theorem gI_pos {a b : Int} (hb : 1 ≤ b) : 0 < gI a b := by
  have : 0 < Nat.gcd a.toNat b.toNat := Nat.gcd_pos_of_pos_right _ (by omega)
  unfold gI; omega
theorem gI_mul {a b c : Int} (ha : 0 ≤ a) (hb : 0 ≤ b) (hc : 0 ≤ c) : gI (c * a) (c * b) = c * gI a b := by
  obtain ⟨x, rfl⟩ := Int.eq_ofNat_of_zero_le ha
  obtain ⟨y, rfl⟩ := Int.eq_ofNat_of_zero_le hb
  obtain ⟨z, rfl⟩ := Int.eq_ofNat_of_zero_le hc
  unfold gI
  rw [← Int.natCast_mul, ← Int.natCast_mul, Int.toNat_natCast, Int.toNat_natCast, Int.toNat_natCast, Int.toNat_natCast, Nat.gcd_mul_left, Int.natCast_mul]
theorem low_mul {a b c : Int} (ha : 0 ≤ a) (hb : 1 ≤ b) (hc : 1 ≤ c) : low1 (c * a) (c * b) = low1 a b ∧ low2 (c * a) (c * b) = low2 a b := by
  unfold low1 low2
  rw [gI_mul ha (by omega) (by omega), Int.mul_ediv_mul_of_pos _ _ (by omega), Int.mul_ediv_mul_of_pos _ _ (by omega)]
  exact ⟨rfl, rfl⟩
theorem low_eq {a b c d : Int} (ha : 0 ≤ a) (hb : 1 ≤ b) (hc : 0 ≤ c) (hd : 1 ≤ d) (h : a * d = c * b) : low1 a b = low1 c d ∧ low2 a b = low2 c d := by
  have e1 := low_mul ha hb hd
  have e2 := low_mul hc hd hb
  have q1 : d * a = b * c := by rw [Int.mul_comm d a, h, Int.mul_comm]
  have q2 : d * b = b * d := Int.mul_comm _ _
  rw [q1, q2] at e1
  exact ⟨e1.1.symm.trans e2.1, e1.2.symm.trans e2.2⟩
theorem gI_dvd1 {a b : Int} (ha : 0 ≤ a) : gI a b ∣ a := by
  obtain ⟨x, rfl⟩ := Int.eq_ofNat_of_zero_le ha
  unfold gI
  rw [Int.toNat_natCast]
  exact Int.natCast_dvd_natCast.mpr (Nat.gcd_dvd_left _ _)
theorem gI_dvd2 {a b : Int} (hb : 0 ≤ b) : gI a b ∣ b := by
  obtain ⟨x, rfl⟩ := Int.eq_ofNat_of_zero_le hb
  unfold gI
  rw [Int.toNat_natCast]
  exact Int.natCast_dvd_natCast.mpr (Nat.gcd_dvd_right _ _)
theorem low_ratio {a b : Int} (ha : 0 ≤ a) (hb : 1 ≤ b) : low1 a b * b = a * low2 a b := by
  have h1 := Int.ediv_mul_cancel (gI_dvd1 (b := b) ha)
  have h2 := Int.ediv_mul_cancel (gI_dvd2 (a := a) (b := b) (by omega))
  unfold low1 low2
  generalize a / gI a b = x at h1 ⊢
  generalize b / gI a b = y at h2 ⊢
  rw [← h1, ← h2]
  generalize gI (x * gI a b) (y * gI a b) = g
  grind
theorem low1_nonneg {a b : Int} (ha : 0 ≤ a) : 0 ≤ low1 a b := Int.ediv_nonneg ha (by unfold gI; omega)
theorem low2_pos {a b : Int} (hb : 1 ≤ b) : 1 ≤ low2 a b := by
  have h2 := Int.ediv_mul_cancel (gI_dvd2 (a := a) (b := b) (by omega))
  have g := gI_pos (a := a) hb
  unfold low2
  generalize b / gI a b = y at h2 ⊢
  by_cases z : 0 < y
  · omega
  · have := Int.mul_nonneg (show 0 ≤ -y by omega) (Int.le_of_lt g)
    rw [Int.neg_mul] at this
    omega
theorem low1_le {a b : Int} (ha : 0 ≤ a) (hb : 1 ≤ b) : low1 a b ≤ a := Int.ediv_le_self _ ha
theorem low2_le {a b : Int} (hb : 1 ≤ b) : low2 a b ≤ b := Int.ediv_le_self _ (by omega)
/-- low terms again -/
theorem low_low {a b : Int} (ha : 0 ≤ a) (hb : 1 ≤ b) : low1 (low1 a b) (low2 a b) = low1 a b ∧ low2 (low1 a b) (low2 a b) = low2 a b := by
  have := low_eq (low1_nonneg (b := b) ha) (low2_pos (a := a) hb) ha hb (by rw [low_ratio ha hb])
  exact this
/-! the shares and the tails of a steepness p/q -/
def shN (p q : Int) (n : Nat) : Int := (q - p) * p ^ n
def shD (p q : Int) (n : Nat) : Int := (q + p) * q ^ n
def tlN (p q : Int) (n : Nat) : Int := q * p ^ n
/-- the tail from k on, as top and bottom -/
def tN (p q k : Int) : Int := if 0 ≤ k then tlN p q k.toNat else shD p q (1 - k).toNat - tlN p q (1 - k).toNat
def tD (p q k : Int) : Int := if 0 ≤ k then shD p q k.toNat else shD p q (1 - k).toNat
def lD (p q k : Int) : Int := if k < 1 - k then shD p q (1 - k).toNat else shD p q k.toNat
theorem pow_le {p q : Int} (hp : 0 ≤ p) (h : p ≤ q) : ∀ n : Nat, p ^ n ≤ q ^ n
  | 0 => by simp
  | n + 1 => by
    rw [Int.pow_succ, Int.pow_succ]
    exact Int.mul_le_mul (pow_le hp h n) h hp (Int.pow_nonneg (by omega))
theorem tl_le {p q : Int} (hp : 1 ≤ p) (h : p < q) (n : Nat) : tlN p q n ≤ shD p q n := by
  unfold tlN shD
  have h1 := pow_le (p := p) (q := q) (by omega) (by omega) n
  have h2 : 0 ≤ p ^ n := Int.pow_nonneg (by omega)
  exact Int.mul_le_mul (by omega) h1 h2 (by omega)
theorem shD_pos {p q : Int} (hp : 1 ≤ p) (h : p < q) (n : Nat) : 1 ≤ shD p q n := by
  have h1 : 0 < q ^ n := Int.pow_pos (by omega)
  have := Int.mul_pos (show 0 < q + p by omega) h1
  unfold shD; omega
theorem tl_nn {p q : Int} (hp : 1 ≤ p) (h : p < q) (n : Nat) : 0 ≤ tlN p q n := Int.mul_nonneg (by omega) (Int.pow_nonneg (by omega))
theorem sh_nn {p q : Int} (hp : 1 ≤ p) (h : p < q) (n : Nat) : 0 ≤ shN p q n := Int.mul_nonneg (by omega) (Int.pow_nonneg (by omega))
theorem tD_pos {p q : Int} (hp : 1 ≤ p) (h : p < q) (k : Int) : 1 ≤ tD p q k := by
  unfold tD; split <;> exact shD_pos hp h _
/-- a tail is the next one and a share more -/
theorem tl_step {p q : Int} (hp : 1 ≤ p) (h : p < q) (k : Int) : (shN p q k.natAbs * tD p q (k + 1) + tN p q (k + 1) * shD p q k.natAbs) * tD p q k = tN p q k * (shD p q k.natAbs * tD p q (k + 1)) := by
  unfold tN tD
  by_cases c : 0 ≤ k
  · obtain ⟨n, rfl⟩ := Int.eq_ofNat_of_zero_le c
    have e1 : (0 : Int) ≤ (n : Int) + 1 := by omega
    have e2 : ((n : Int) + 1).toNat = n + 1 := by omega
    simp only [if_pos c, if_pos e1, e2, Int.natAbs_natCast, Int.toNat_natCast]
    unfold tlN shD shN
    rw [Int.pow_succ, Int.pow_succ]
    generalize p ^ n = x
    generalize q ^ n = y
    grind
  · obtain ⟨n, hn⟩ : ∃ n : Nat, k = -((n : Int) + 1) := ⟨(-k - 1).toNat, by omega⟩
    have e0 : k.natAbs = n + 1 := by omega
    have e1 : (1 - k).toNat = n + 2 := by omega
    rw [e0]
    simp only [if_neg c, e1]
    by_cases d : 0 ≤ k + 1
    · have e2 : n = 0 := by omega
      have e3 : (k + 1).toNat = 0 := by omega
      subst e2
      simp only [if_pos d, e3]
      unfold tlN shD shN
      simp only [Nat.zero_add, Int.pow_zero, Int.pow_one, Int.pow_succ]
      grind
    · have e4 : (1 - (k + 1)).toNat = n + 1 := by omega
      simp only [if_neg d, e4]
      unfold tlN shD shN
      rw [show n + 2 = n + 1 + 1 from rfl, Int.pow_succ p (n + 1), Int.pow_succ q (n + 1)]
      generalize p ^ (n + 1) = x
      generalize q ^ (n + 1) = y
      grind
theorem low_le {a b : Int} (ha : a ≤ b) (hb : 1 ≤ b) : low1 a b ≤ low2 a b := Int.ediv_le_ediv (gI_pos hb) ha
theorem step_gcd {x y : Int} (hx : 0 ≤ x) (hy : 0 < y) : gI y (x % y) = gI x y := by
  obtain ⟨m, rfl⟩ := Int.eq_ofNat_of_zero_le hx
  obtain ⟨n, rfl⟩ := Int.eq_ofNat_of_zero_le (Int.le_of_lt hy)
  unfold gI
  rw [← Int.natCast_emod, Int.toNat_natCast, Int.toNat_natCast, Int.toNat_natCast, Nat.gcd_comm m n, Nat.gcd_rec n m, Nat.gcd_comm]
theorem gcd_end {x : Int} (hx : 0 ≤ x) : gI x 0 = x := by
  unfold gI
  simp
  omega
theorem gI_le {a b : Int} (hb : 1 ≤ b) : gI a b ≤ b := by
  have : Nat.gcd a.toNat b.toNat ≤ b.toNat := Nat.gcd_le_right _ (by omega)
  unfold gI; omega
theorem pow9 {a : Int} {n : Nat} (h0 : 0 ≤ a) (h9 : a ≤ 9) (hn : n ≤ 21) : 0 ≤ a ^ n ∧ a ^ n < 2 ^ 67 := by
  refine ⟨Int.pow_nonneg h0, ?_⟩
  have h1 := pow_le h0 h9 n
  obtain ⟨m, hm⟩ : ∃ m, n + m = 21 := ⟨21 - n, by omega⟩
  have h2 : (9 : Int) ^ 21 = 9 ^ n * 9 ^ m := by rw [← hm, Int.pow_add]
  have h3 : (1 : Int) ≤ 9 ^ m := by have : (0 : Int) < 9 ^ m := Int.pow_pos (by decide); omega
  have h4 : (0 : Int) ≤ 9 ^ n := Int.pow_nonneg (by decide)
  have h5 : (9 : Int) ^ n * 1 ≤ 9 ^ n * 9 ^ m := Int.mul_le_mul_of_nonneg_left h3 h4
  have h6 : (9 : Int) ^ 21 < 2 ^ 67 := by decide
  omega
theorem mul_bd {a b : Int} {m n : Nat} (a0 : 0 ≤ a) (a1 : a < 2 ^ m) (b0 : 0 ≤ b) (b1 : b < 2 ^ n) : 0 ≤ a * b ∧ a * b < 2 ^ (m + n) := by
  refine ⟨Int.mul_nonneg a0 b0, ?_⟩
  rw [Int.pow_add]
  have hp : (0 : Int) < 2 ^ n := Int.pow_pos (by decide)
  have h1 : a * b ≤ a * 2 ^ n := Int.mul_le_mul_of_nonneg_left (Int.le_of_lt b1) a0
  have h2 : a * 2 ^ n < 2 ^ m * 2 ^ n := Int.mul_lt_mul_of_pos_right a1 hp
  omega
/-! ### steepnesses and the promises -/
structure Steep (p q : Int) : Prop where
  p1 : 1 ≤ p
  pq : p < q
  q9 : q ≤ 9
def TupAt (H : Hp) (p : Addr) (a b : Int) : Prop := H p = some (.tup [.int a, .int b])
theorem ix0 (a b : Int) : atI [V.int a, V.int b] 0 = some (.int a) := rfl
theorem ix1 (a b : Int) : atI [V.int a, V.int b] 1 = some (.int b) := rfl
def lowI (a b : Int) : List V := [.int (low1 a b), .int (low2 a b)]
/-- at least 0 and below 2^72 -/
def B72 (a : Int) : Prop := 0 ≤ a ∧ a < 2 ^ 180
theorem B72.below {a : Int} (h : B72 a) : Below a := ⟨by have := h.1; omega, by have := h.2; omega⟩
theorem sh_bd {p q : Int} (s : Steep p q) {n : Nat} (hn : n ≤ 21) : B72 (shN p q n) ∧ B72 (shD p q n) ∧ B72 (tlN p q n) := by
  obtain ⟨h1, h2, h3⟩ := s
  have e1 := pow9 (a := p) (by omega) (by omega) hn
  have e2 := pow9 (a := q) (by omega) (by omega) hn
  have q1 := mul_bd (a := q - p) (m := 5) (by omega) (by omega) e1.1 e1.2
  have q2 := mul_bd (a := q + p) (m := 5) (by omega) (by omega) e2.1 e2.2
  have q3 := mul_bd (a := q) (m := 5) (by omega) (by omega) e1.1 e1.2
  have up : (2 : Int) ^ (5 + 67) < 2 ^ 180 := by decide
  exact ⟨⟨q1.1, Int.lt_trans q1.2 up⟩, ⟨q2.1, Int.lt_trans q2.2 up⟩, ⟨q3.1, Int.lt_trans q3.2 up⟩⟩
theorem low_bd {a b : Int} (ha : B72 a) (hb : B72 b) (h1 : 1 ≤ b) : B72 (low1 a b) ∧ B72 (low2 a b) := by
  have q1 := low1_nonneg (b := b) ha.1
  have q2 := low2_pos (a := a) h1
  have q3 := low1_le ha.1 h1
  have q4 := low2_le (a := a) h1
  have := ha.2; have := hb.2
  exact ⟨⟨q1, by omega⟩, ⟨by omega, by omega⟩⟩
theorem tup_out {H H' : Hp} {d l p : Addr} {xs : List V} (D : Deal H d l) (o : Out d l H H') (h : H p = some (.tup xs)) : H' p = some (.tup xs) := by
  obtain ⟨sd, n, ls, D⟩ := D
  exact o _ _ h (ne_of h D.dc (by intro z; cases z)) (ne_of h D.lc (by intro z; cases z))
def spGcd : Sp := fun vs H Q _ => ∃ a b : Int, vs = [.int a, .int b] ∧ 0 ≤ a ∧ 0 ≤ b ∧ Q (.int (gI a b)) H
def spLow : Sp := fun vs H Q _ => ∃ a b : Int, vs = [.int a, .int b] ∧ 0 ≤ a ∧ 1 ≤ b ∧ b < 2 ^ 200 * 2 ^ 200 ∧ ∀ p, H p = none → Q (.ref p) (upd H p (.tup (lowI a b)))
def spTimes : Sp := fun vs H Q _ => ∃ (p q : Addr) (a b c d : Int), vs = [.ref p, .ref q] ∧ TupAt H p a b ∧ TupAt H q c d ∧ B72 a ∧ B72 b ∧ B72 c ∧ B72 d ∧ 1 ≤ b ∧ 1 ≤ d ∧ ∀ r, H r = none → Q (.ref r) (upd H r (.tup (lowI (a * c) (b * d))))
def spPow : Sp := fun vs H Q _ => ∃ (p : Addr) (a b k : Int), vs = [.ref p, .int k] ∧ TupAt H p a b ∧ 0 ≤ a ∧ a ≤ 9 ∧ 0 ≤ b ∧ b ≤ 9 ∧ 0 ≤ k ∧ k ≤ 21 ∧ ∀ r, H r = none → Q (.ref r) (upd H r (.tup [.int (a ^ k.toNat), .int (b ^ k.toNat)]))
/-- a new fraction of the steepness at st -/
def spFr (lo hi : Int) (f g : Int → Int → Int → Int) : Sp := fun vs H Q _ => ∃ (st : Addr) (p q k : Int), vs = [.ref st, .int k] ∧ TupAt H st p q ∧ Steep p q ∧ lo ≤ k ∧ k ≤ hi ∧
  ∀ H' r, Same H H' → TupAt H' r (low1 (f p q k) (g p q k)) (low2 (f p q k) (g p q k)) → Q (.ref r) H'
def spLPow : Sp := fun vs H Q _ => ∃ (a k : Int), vs = [.int a, .int k] ∧ 0 ≤ a ∧ a ≤ 9 ∧ 0 ≤ k ∧ k ≤ 21 ∧ Q (.int (a ^ k.toNat)) H
def spLaw (K : PySem.W.Frag) : Sp := fun vs H Q _ => ∃ (a : Addr) (ns : List Int), vs = [.ref a] ∧ SqL K H a (ns.map V.int) ∧ ns.length ≤ 63 ∧ ∀ H', Q (.bl true) H'

/-! ### two lists, item by item -/
def Two {α : Type} (R : V → α → Prop) : List V → List α → Prop
  | [], [] => True
  | v :: vs, a :: as => R v a ∧ Two R vs as
  | _, _ => False
theorem Two.mono {α : Type} {R R' : V → α → Prop} (h : ∀ v a, R v a → R' v a) : ∀ {vs : List V} {as : List α}, Two R vs as → Two R' vs as
  | [], [], _ => trivial
  | _ :: _, _ :: _, ⟨e, r⟩ => ⟨h _ _ e, Two.mono h r⟩
  | [], _ :: _, z => z.elim
  | _ :: _, [], z => z.elim
theorem Two.append {α : Type} {R : V → α → Prop} : ∀ {vs ws : List V} {as bs : List α}, Two R vs as → Two R ws bs → Two R (vs ++ ws) (as ++ bs)
  | [], _, [], _, _, r => r
  | _ :: _, _, _ :: _, _, ⟨e, r⟩, r2 => ⟨e, Two.append r r2⟩
  | [], _, _ :: _, _, z, _ => z.elim
  | _ :: _, _, [], _, z, _ => z.elim
theorem Two.length {α : Type} {R : V → α → Prop} : ∀ {vs : List V} {as : List α}, Two R vs as → vs.length = as.length
  | [], [], _ => rfl
  | _ :: _, _ :: _, ⟨_, r⟩ => by simp [Two.length r]
  | [], _ :: _, z => z.elim
  | _ :: _, [], z => z.elim
def TS (H H' : Hp) : Prop := ∀ a xs, H a = some (.tup xs) → H' a = some (.tup xs)
theorem TS.of {H H' : Hp} (s : Same H H') : TS H H' := fun _ _ e => s _ _ e
theorem TS.trans {H H1 H2 : Hp} (a : TS H H1) (b : TS H1 H2) : TS H H2 := fun c o h => b c o (a c o h)
theorem TS.lst {H : Hp} {l : Addr} {xs ys : List V} (h : H l = some (.lst xs)) : TS H (upd H l (.lst ys)) := fun a o e => by
  rw [upd_ne (ne_of e h (by intro z; cases z))]; exact e
theorem TS.out {H H' : Hp} {d l : Addr} (D : Deal H d l) (o : Out d l H H') : TS H H' := fun p xs h => tup_out D o h
theorem same_lst {H H1 : Hp} {l : Addr} {ys : List V} (s : Same H H1) (h : H l = none) : Same H (upd H1 l (.lst ys)) := fun b o e => by
  rw [upd_ne (ne_of_none e h)]; exact s b o e
theorem take_snoc {α : Type} {l : List α} {i : Nat} {x : α} (h : l[i]? = some x) : l.take (i + 1) = l.take i ++ [x] := by
  rw [List.take_succ, h]
  rfl
/-! ### tables: rung, top, bottom -/
def Ent (H : Hp) (v : V) (e : Int × Int × Int) : Prop := ∃ p q, v = .ref p ∧ H p = some (.tup [.int e.1, .ref q]) ∧ TupAt H q e.2.1 e.2.2
theorem Ent.ts {H H' : Hp} {v : V} {e : Int × Int × Int} (t : TS H H') (h : Ent H v e) : Ent H' v e := let ⟨p, q, a, b, c⟩ := h; ⟨p, q, a, t _ _ b, t _ _ c⟩
theorem tab_ts {H H' : Hp} {vs : List V} {es : List (Int × Int × Int)} (t : TS H H') (h : Two (Ent H) vs es) : Two (Ent H') vs es := h.mono fun _ _ z => z.ts t
/-! ### a ladder's table -/
def eN (p q lo hi n y : Int) : Int := if y = lo ∨ y = hi then tlN p q (y - n).natAbs else shN p q (y - n).natAbs
def eD (p q n y : Int) : Int := shD p q (y - n).natAbs
def ent (p q lo hi n y : Int) : Int × Int × Int := (y, low1 (eN p q lo hi n y) (eD p q n y), low2 (eN p q lo hi n y) (eD p q n y))
def tableI (p q lo hi n : Int) : List (Int × Int × Int) := if lo = hi then [(lo, 1, 1)] else (rangeI lo (hi + 1 - lo).toNat).map (ent p q lo hi n)
theorem rangeI_cons (lo : Int) : ∀ n : Nat, rangeI lo (n + 1) = lo :: rangeI (lo + 1) n
  | 0 => by simp [rangeI]
  | n + 1 => by
    rw [rangeI_succ, rangeI_cons lo n, rangeI_succ]
    simp
    omega
theorem range_parts {lo hi : Int} (h : lo < hi) : rangeI lo (hi + 1 - lo).toNat = [lo] ++ rangeI (lo + 1) (hi - (lo + 1)).toNat ++ [hi] := by
  obtain ⟨m, hm⟩ : ∃ m : Nat, hi = lo + 1 + m := ⟨(hi - lo - 1).toNat, by omega⟩
  subst hm
  have e1 : (lo + 1 + (m : Int) + 1 - lo).toNat = m + 1 + 1 := by omega
  have e2 : (lo + 1 + (m : Int) - (lo + 1)).toNat = m := by omega
  rw [e1, e2, rangeI_succ, rangeI_cons]
  simp
  omega
def lawSh (p q lo hi n y : Int) : Int := p ^ (y - n).natAbs * q ^ (hi - lo - ((y - n).natAbs : Int)).toNat * (if y = lo ∨ y = hi then q else q - p)
def sharesI (p q lo hi n : Int) : List Int := if lo = hi then [1] else (rangeI lo (hi + 1 - lo).toNat).map (lawSh p q lo hi n)
def botI (p q lo hi : Int) : Int := if lo = hi then 1 else shD p q (hi - lo).toNat
def tabL (b : Int) : Int → List Int → List (Int × Int × Int)
  | _, [] => []
  | f, s :: r => (f, low1 s b, low2 s b) :: tabL b (f + 1) r
theorem tabL_snoc (b : Int) : ∀ (f : Int) (l : List Int) (s : Int), tabL b f (l ++ [s]) = tabL b f l ++ [(f + l.length, low1 s b, low2 s b)]
  | f, [], s => by simp [tabL]
  | f, a :: r, s => by
    simp only [List.cons_append, tabL, tabL_snoc b (f + 1) r s, List.length_cons]
    have e : f + 1 + (r.length : Int) = f + ((r.length + 1 : Nat) : Int) := by omega
    rw [e]
theorem tabL_map (b : Int) (g : Int → Int) (lo : Int) : ∀ m : Nat, tabL b lo ((rangeI lo m).map g) = (rangeI lo m).map fun y => (y, low1 (g y) b, low2 (g y) b)
  | 0 => rfl
  | m + 1 => by
    rw [rangeI_succ, List.map_append, List.map_append]
    show tabL b lo (_ ++ [g (lo + m)]) = _
    rw [tabL_snoc, tabL_map b g lo m, List.length_map, rangeI_len]
    rfl
theorem eN_nn {p q lo hi n y : Int} (s : Steep p q) : 0 ≤ eN p q lo hi n y := by
  unfold eN; split
  · exact tl_nn s.p1 s.pq _
  · exact sh_nn s.p1 s.pq _
theorem law_nn {p q lo hi n y : Int} (s : Steep p q) : 1 ≤ lawSh p q lo hi n y := by
  unfold lawSh
  have h1 : (0 : Int) < p ^ (y - n).natAbs := Int.pow_pos (by have := s.p1; omega)
  have h2 : (0 : Int) < q ^ (hi - lo - ((y - n).natAbs : Int)).toNat := Int.pow_pos (by have := s.p1; have := s.pq; omega)
  have h3 : (0 : Int) < (if y = lo ∨ y = hi then q else q - p) := by have := s.p1; have := s.pq; split <;> omega
  have := Int.mul_pos (Int.mul_pos h1 h2) h3
  omega
theorem toN_abs {lo hi n y : Int} (h1 : lo ≤ n) (h2 : n ≤ hi) (h3 : lo ≤ y) (h4 : y ≤ hi) : (hi - lo).toNat = (hi - lo - ((y - n).natAbs : Int)).toNat + (y - n).natAbs := by omega
theorem law_low {p q lo hi n y : Int} (s : Steep p q) (h1 : lo ≤ n) (h2 : n ≤ hi) (h3 : lo ≤ y) (h4 : y ≤ hi) :
    low1 (lawSh p q lo hi n y) (shD p q (hi - lo).toNat) = low1 (eN p q lo hi n y) (eD p q n y) ∧ low2 (lawSh p q lo hi n y) (shD p q (hi - lo).toNat) = low2 (eN p q lo hi n y) (eD p q n y) := by
  have q1 := law_nn (lo := lo) (hi := hi) (n := n) (y := y) s
  refine low_eq (by omega) (shD_pos s.p1 s.pq _) (eN_nn s) (shD_pos s.p1 s.pq _) ?_
  obtain ⟨f, hf⟩ : ∃ f : Nat, (y - n).natAbs = f := ⟨_, rfl⟩
  obtain ⟨g, hg⟩ : ∃ g : Nat, (hi - lo - (f : Int)).toNat = g := ⟨_, rfl⟩
  have hw : (hi - lo).toNat = f + g := by rw [toN_abs h1 h2 h3 h4, hf, hg, Nat.add_comm]
  unfold lawSh eN eD shD tlN shN
  rw [hf, hg, hw, Int.pow_add]
  generalize p ^ f = a
  generalize q ^ f = b
  generalize q ^ g = c
  split <;> grind
theorem law_table {p q lo hi n : Int} (s : Steep p q) (h1 : lo ≤ n) (h2 : n ≤ hi) : tabL (botI p q lo hi) lo (sharesI p q lo hi n) = tableI p q lo hi n := by
  unfold botI sharesI tableI
  by_cases c : lo = hi
  · simp only [if_pos c]
    have e1 : low1 1 1 = 1 := by decide
    have e2 : low2 1 1 = 1 := by decide
    simp only [tabL, e1, e2]
  · simp only [if_neg c]
    rw [tabL_map]
    refine List.map_congr_left fun y hy => ?_
    obtain ⟨y1, y2⟩ := mem_rangeI.mp hy
    have e := law_low s h1 h2 y1 (by omega)
    unfold ent
    rw [e.1, e.2]
/-! ### the promises -/
structure Ends (lo hi : Int) : Prop where
  a : 0 ≤ lo
  b : lo ≤ hi
  c : hi ≤ 9
def spLad : Sp := fun vs H Q _ => ∃ st p q n lo hi, vs = [.int n, .ref st, .int lo, .int hi] ∧ TupAt H st p q ∧ Steep p q ∧ Ends lo hi ∧ lo ≤ n ∧ n ≤ hi ∧ ∀ H' t us, Same H H' → H' t = some (.tup us) → Two (Ent H') us (tableI p q lo hi n) → Q (.ref t) H'
def taken : List Str := ["kinds", "ladder", "flat", "choose", "first", "let", "tell", "when", "else", "times", "end", "of"]
theorem shares_pos {p q lo hi n : Int} (s : Steep p q) : ∀ z ∈ sharesI p q lo hi n, 1 ≤ z := by
  unfold sharesI
  intro z hz
  split at hz
  · have e : z = 1 := by simpa using hz
    omega
  · obtain ⟨y, _, rfl⟩ := List.mem_map.mp hz
    exact law_nn s
end Mine
namespace Mine
open PySem L2
/-! ### totals: a dict of fractions by whole numbers -/
def Fr72 (u : Int × Int) : Prop := B72 u.1 ∧ B72 u.2 ∧ 1 ≤ u.2
def addF (u e : Int × Int) : Int × Int := (low1 (u.1 * e.2 + e.1 * u.2) (u.2 * e.2), low2 (u.1 * e.2 + e.1 * u.2) (u.2 * e.2))
def stepT (T : Int → Option (Int × Int)) (e : Int × Int × Int) : Int → Option (Int × Int) := fun k => if k = e.1 then some (addF ((T k).getD (0, 1)) e.2) else T k
def totF (es : List (Int × Int × Int)) : Int → Option (Int × Int) := es.foldl stepT (fun _ => none)
def Safe : (Int → Option (Int × Int)) → List (Int × Int × Int) → Prop
  | _, [] => True
  | T, e :: r => Fr72 ((T e.1).getD (0, 1)) ∧ Fr72 e.2 ∧ Safe (stepT T e) r
theorem safe_at : ∀ {es : List (Int × Int × Int)} {T : Int → Option (Int × Int)} {i : Nat} {e : Int × Int × Int}, Safe T es → es[i]? = some e → Fr72 ((((es.take i).foldl stepT T) e.1).getD (0, 1)) ∧ Fr72 e.2
  | [], _, _, _, _, h => by simp at h
  | a :: r, T, 0, e, ⟨s1, s2, _⟩, h => by
    have q : a = e := by simpa using h
    subst q
    exact ⟨s1, s2⟩
  | a :: r, T, i + 1, e, ⟨_, _, s3⟩, h => by
    have := safe_at (i := i) s3 (by simpa using h)
    simpa using this
theorem fold_snoc {es : List (Int × Int × Int)} {i : Nat} {e : Int × Int × Int} {T : Int → Option (Int × Int)} (h : es[i]? = some e) : (es.take (i + 1)).foldl stepT T = stepT ((es.take i).foldl stepT T) e := by
  rw [take_snoc h, List.foldl_append]
  rfl
structure KvT (H : Hp) (kvs : List (Key × V)) (T : Int → Option (Int × Int)) : Prop where
  inl : ∀ p ∈ kvs, ∃ k : Int, p.1 = Sum.inl k
  nd : (kvs.map (·.1)).Nodup
  no : ∀ k, T k = none → valV kvs (Sum.inl k) = none
  val : ∀ k u, T k = some u → ∃ q, valV kvs (Sum.inl k) = some (.ref q) ∧ TupAt H q u.1 u.2
theorem KvT.nil {H : Hp} : KvT H [] (fun _ => none) := ⟨fun _ z => (nomatch z), List.nodup_nil, fun _ _ => rfl, fun _ _ z => (nomatch z)⟩
theorem KvT.ts {H H' : Hp} {kvs : List (Key × V)} {T : Int → Option (Int × Int)} (s : TS H H') (h : KvT H kvs T) : KvT H' kvs T := ⟨h.inl, h.nd, h.no, fun k u e => let ⟨q, a, b⟩ := h.val k u e; ⟨q, a, s _ _ b⟩⟩
theorem put_keys {kvs : List (Key × V)} {k : Key} {v : V} : (∃ x, valV kvs k = some x) → (putK kvs k v).map (·.1) = kvs.map (·.1) := by
  rintro ⟨x, hx⟩
  unfold putK
  rw [valV_any, hx]
  simp only [Option.isSome_some, if_true, List.map_map]
  refine List.map_congr_left fun p _ => ?_
  simp only [Function.comp]
  split <;> rfl
theorem KvT.put {H : Hp} {kvs : List (Key × V)} {T : Int → Option (Int × Int)} {e : Int × Int × Int} {q : Addr} (h : KvT H kvs T) (hq : TupAt H q (addF ((T e.1).getD (0, 1)) e.2).1 (addF ((T e.1).getD (0, 1)) e.2).2) :
    KvT H (putK kvs (Sum.inl e.1) (.ref q)) (stepT T e) := by
  have keys : (∀ p ∈ putK kvs (Sum.inl e.1) (V.ref q), ∃ k : Int, p.1 = Sum.inl k) ∧ ((putK kvs (Sum.inl e.1) (V.ref q)).map (·.1)).Nodup := by
    cases c : valV kvs (Sum.inl e.1) with
    | none =>
      refine ⟨fun p hp => ?_, nd_putK _ h.nd c⟩
      rw [putK_new _ c] at hp
      rcases List.mem_append.mp hp with z | z
      · exact h.inl p z
      · have : p = (Sum.inl e.1, V.ref q) := by simpa using z
        exact ⟨e.1, by rw [this]⟩
    | some x =>
      have pk := put_keys (v := V.ref q) ⟨x, c⟩
      refine ⟨fun p hp => ?_, by rw [pk]; exact h.nd⟩
      have : p.1 ∈ kvs.map (·.1) := by rw [← pk]; exact List.mem_map.mpr ⟨p, hp, rfl⟩
      obtain ⟨p', hp', e'⟩ := List.mem_map.mp this
      obtain ⟨k, hk⟩ := h.inl p' hp'
      exact ⟨k, by rw [← e', hk]⟩
  refine ⟨keys.1, keys.2, fun k hk => ?_, fun k u hk => ?_⟩
  · rw [valV_put]
    unfold stepT at hk
    by_cases c : k = e.1
    · rw [if_pos c] at hk; cases hk
    · rw [if_neg c] at hk
      rw [if_neg (fun z => c (Sum.inl.inj z))]
      exact h.no k hk
  · rw [valV_put]
    unfold stepT at hk
    by_cases c : k = e.1
    · subst c
      rw [if_pos rfl] at hk
      cases hk
      exact ⟨q, by rw [if_pos rfl], hq⟩
    · rw [if_neg c] at hk
      rw [if_neg (fun z => c (Sum.inl.inj z))]
      exact h.val k u hk
theorem val_at {kvs : List (Key × V)} : ∀ {i : Nat} {k : Key} {v : V}, (kvs.map (·.1)).Nodup → kvs[i]? = some (k, v) → valV kvs k = some v := by
  induction kvs with
  | nil => intro i k v _ h; simp at h
  | cons p r ih =>
    intro i k v hn h
    obtain ⟨h1, h2⟩ := List.nodup_cons.mp (by simpa using hn : (p.1 :: r.map (·.1)).Nodup)
    cases i with
    | zero =>
      have e : p = (k, v) := by simpa using h
      subst e
      exact valV_pos rfl
    | succ i =>
      have h' : r[i]? = some (k, v) := by simpa using h
      have hm : k ∈ r.map (·.1) := List.mem_map.mpr ⟨(k, v), List.mem_of_getElem? h', rfl⟩
      rw [valV_neg (fun e => h1 (by rw [e]; exact hm))]
      exact ih h2 h'
/-- the keys whose total is something -/
def liveK (kvs : List (Key × V)) (T : Int → Option (Int × Int)) : List Int := kvs.filterMap fun p => match p.1 with
  | .inl k => if T k = some (0, 1) then none else some k
  | .inr _ => none
theorem live_nodup {kvs : List (Key × V)} {T : Int → Option (Int × Int)} (h : (kvs.map (·.1)).Nodup) : (liveK kvs T).Nodup := by
  induction kvs with
  | nil => exact List.nodup_nil
  | cons p r ih =>
    obtain ⟨h1, h2⟩ := List.nodup_cons.mp (by simpa using h : (p.1 :: r.map (·.1)).Nodup)
    have ih := ih h2
    obtain ⟨k, v⟩ := p
    cases k with
    | inr x => exact ih
    | inl k =>
      unfold liveK at ih ⊢
      rw [List.filterMap_cons]
      by_cases c : T k = some (0, 1)
      · simp only [c, if_true]; exact ih
      · simp only [c, if_false]
        refine List.nodup_cons.mpr ⟨fun hm => ?_, ih⟩
        obtain ⟨p', hp', e'⟩ := List.mem_filterMap.mp hm
        obtain ⟨k', v'⟩ := p'
        cases k' with
        | inr x => simp at e'
        | inl k' =>
          simp only at e'
          by_cases c' : T k' = some (0, 1)
          · rw [if_pos c'] at e'; cases e'
          · rw [if_neg c'] at e'
            cases e'
            exact h1 (List.mem_map.mpr ⟨_, hp', rfl⟩)
theorem live_mem {H : Hp} {kvs : List (Key × V)} {T : Int → Option (Int × Int)} (h : KvT H kvs T) {k : Int} : k ∈ liveK kvs T ↔ ∃ u, T k = some u ∧ u ≠ (0, 1) := by
  constructor
  · intro hm
    obtain ⟨p, hp, e⟩ := List.mem_filterMap.mp hm
    obtain ⟨k', v'⟩ := p
    cases k' with
    | inr x => simp at e
    | inl k' =>
      simp only at e
      by_cases c : T k' = some (0, 1)
      · rw [if_pos c] at e; cases e
      · rw [if_neg c] at e
        cases e
        cases q : T k with
        | none =>
          have := valV_not (h.no k q)
          exact absurd (List.mem_map.mpr ⟨_, hp, rfl⟩) this
        | some u => exact ⟨u, rfl, fun z => c (by rw [q, z])⟩
  · rintro ⟨u, hu, hne⟩
    obtain ⟨q, e, _⟩ := h.val k u hu
    obtain ⟨p, hp, e'⟩ := List.mem_map.mp (valV_in e)
    refine List.mem_filterMap.mpr ⟨p, hp, ?_⟩
    obtain ⟨k', v'⟩ := p
    have e' : k' = Sum.inl k := e'
    subst e'
    have c : ¬ T k = some (0, 1) := fun z => hne (by rw [hu] at z; exact Option.some.inj z)
    simp only [c, if_false]
theorem strict_of : ∀ {l : List Int}, l.Pairwise (· ≤ ·) → l.Nodup → l.Pairwise (· < ·)
  | [], _, _ => List.Pairwise.nil
  | a :: r, h, n => by
    obtain ⟨h1, h2⟩ := List.pairwise_cons.mp h
    obtain ⟨n1, n2⟩ := List.nodup_cons.mp n
    refine List.pairwise_cons.mpr ⟨fun b hb => ?_, strict_of h2 n2⟩
    have := h1 b hb
    have : a ≠ b := fun z => n1 (by rw [z]; exact hb)
    omega
/-- a table by its keys -/
def tabOf (T : Int → Option (Int × Int)) (ks : List Int) : List (Int × Int × Int) := ks.map fun k => (k, (T k).getD (0, 1))
/-- two rising lists of the same members are one -/
theorem rise_ext : ∀ {l m : List Int}, l.Pairwise (· < ·) → m.Pairwise (· < ·) → (∀ x, x ∈ l ↔ x ∈ m) → l = m
  | [], [], _, _, _ => rfl
  | [], b :: m, _, _, h => absurd ((h b).mpr List.mem_cons_self) (by simp)
  | a :: l, [], _, _, h => absurd ((h a).mp List.mem_cons_self) (by simp)
  | a :: l, b :: m, p, q, h => by
    obtain ⟨p1, p2⟩ := List.pairwise_cons.mp p
    obtain ⟨q1, q2⟩ := List.pairwise_cons.mp q
    have e : a = b := by
      rcases List.mem_cons.mp ((h a).mp List.mem_cons_self) with z | z
      · exact z
      · rcases List.mem_cons.mp ((h b).mpr List.mem_cons_self) with w | w
        · exact w.symm
        · have := q1 a z; have := p1 b w; omega
    subst e
    have e2 : l = m := rise_ext p2 q2 fun x => by
      constructor
      · intro hx
        rcases List.mem_cons.mp ((h x).mp (List.mem_cons_of_mem _ hx)) with z | z
        · have := p1 x hx; omega
        · exact z
      · intro hx
        rcases List.mem_cons.mp ((h x).mpr (List.mem_cons_of_mem _ hx)) with z | z
        · have := q1 x hx; omega
        · exact z
    rw [e2]
def spAdd : Sp := fun vs H Q _ => ∃ (p q : Addr) (u e : Int × Int), vs = [.ref p, .ref q] ∧ TupAt H p u.1 u.2 ∧ TupAt H q e.1 e.2 ∧ Fr72 u ∧ Fr72 e ∧ ∀ r, H r = none → Q (.ref r) (upd H r (.tup [.int (addF u e).1, .int (addF u e).2]))
end Mine
namespace Mine
open PySem L2
/-! ### how often a key comes -/
theorem range_rise (lo : Int) : ∀ m : Nat, (rangeI lo m).Pairwise (· < ·)
  | 0 => List.Pairwise.nil
  | m + 1 => by
    rw [rangeI_succ]
    refine List.pairwise_append.mpr ⟨range_rise lo m, List.pairwise_singleton _ _, fun a ha b hb => ?_⟩
    have := mem_rangeI.mp ha
    have e : b = lo + m := by simpa using hb
    omega
/-! ### chooses -/
theorem low_fr {S P : Int} (hS : 0 ≤ S) (h1 : S < 2 ^ 180) (hP : 1 ≤ P) (h2 : P < 2 ^ 180) : Fr72 (low1 S P, low2 S P) := by
  have l := low_bd (a := S) (b := P) ⟨hS, h1⟩ ⟨by (first | exact Int.le_trans (b := 1) (by decide +kernel) (by with_reducible assumption) | omega), h2⟩ hP
  exact ⟨l.1, l.2, low2_pos hP⟩
end Mine
namespace Mine
open PySem L2
/-! ### rows of flats and chooses, and the promises -/
def FrR (H : Hp) (v : V) (f : Int × Int) : Prop := ∃ q, v = .ref q ∧ TupAt H q f.1 f.2
theorem FrR.ts {H H' : Hp} {v : V} {f : Int × Int} (t : TS H H') (h : FrR H v f) : FrR H' v f := let ⟨a, e, q⟩ := h; ⟨a, e, t _ _ q⟩
def spDiv : Sp := fun vs H Q _ => ∃ (p q : Addr) (u e : Int × Int), vs = [.ref p, .ref q] ∧ TupAt H p u.1 u.2 ∧ TupAt H q e.1 e.2 ∧ Fr72 u ∧ Fr72 e ∧ 1 ≤ e.1 ∧ ∀ r, H r = none → Q (.ref r) (upd H r (.tup (lowI (u.1 * e.2) (u.2 * e.1))))
/-! ### what is shown -/
/-! ### what is asked -/
end Mine
namespace Mine
open PySem L2
theorem Two.at {α : Type} {R : V → α → Prop} : ∀ {vs : List V} {as : List α} {i : Nat} {v : V}, Two R vs as → vs[i]? = some v → ∃ a, as[i]? = some a ∧ R v a
  | [], [], _, _, _, h => by simp at h
  | v :: vs, a :: as, 0, w, ⟨h1, _⟩, h => by
    have e : v = w := by simpa using h
    subst e
    exact ⟨a, by simp, h1⟩
  | v :: vs, a :: as, i + 1, w, ⟨_, h2⟩, h => by
    obtain ⟨b, hb, r⟩ := Two.at (i := i) h2 (by simpa using h)
    exact ⟨b, by simpa using hb, r⟩
theorem same_any {H H1 : Hp} {l : Addr} {o : HO} (s : Same H H1) (h : H l = none) : Same H (upd H1 l o) := fun b u e => by
  rw [upd_ne (ne_of_none e h)]
  exact s b u e
theorem low1_pos {S P : Int} (hS : 1 ≤ S) (hP : 1 ≤ P) : 1 ≤ low1 S P := by
  have r := low_ratio (a := S) (by (first | exact Int.le_trans (b := 1) (by decide +kernel) (by with_reducible assumption) | omega)) hP
  have n2 := low2_pos (a := S) hP
  have a := low1_nonneg (a := S) (b := P) (by (first | exact Int.le_trans (b := 1) (by decide +kernel) (by with_reducible assumption) | omega))
  by_cases z : low1 S P = 0
  · rw [z, Int.zero_mul] at r
    have := Int.mul_pos (show 0 < S by (first | exact Int.lt_of_lt_of_le (b := 1) (by decide +kernel) (by with_reducible assumption) | omega)) (show 0 < low2 S P by (first | exact Int.lt_of_lt_of_le (b := 1) (by decide +kernel) (by with_reducible assumption) | omega))
    omega
  · omega
theorem putK_len {kvs : List (Key × V)} {k : Key} {v : V} : (putK kvs k v).length ≤ kvs.length + 1 := by
  cases c : valV kvs k with
  | none => rw [putK_new _ c, List.length_append]; exact Nat.le_refl _
  | some x =>
    have e := congrArg List.length (put_keys (v := v) ⟨x, c⟩)
    rw [List.length_map, List.length_map] at e
    omega
theorem live_snoc {kvs : List (Key × V)} {T : Int → Option (Int × Int)} {i : Nat} {k : Int} {v : V} (h : kvs[i]? = some (Sum.inl k, v)) : liveK (kvs.take (i + 1)) T = liveK (kvs.take i) T ++ (if T k = some (0, 1) then [] else [k]) := by
  rw [take_snoc h]
  unfold liveK
  rw [List.filterMap_append]
  by_cases c : T k = some (0, 1) <;> simp [c]
theorem live_len {kvs : List (Key × V)} {T : Int → Option (Int × Int)} : (liveK kvs T).length ≤ kvs.length := List.length_filterMap_le _ _
theorem same_pair (a b c d : Int) : Spec.same (.tuple [.int a, .int b]) (.tuple [.int c, .int d]) = decide ((a, b) = (c, d)) := by
  have e : Spec.same (.tuple ([a, b].map PyData.int)) (.tuple ([c, d].map PyData.int)) = decide ([a, b] = [c, d]) := same_ints [a, b] [c, d]
  refine Eq.trans e ?_
  by_cases h1 : a = c <;> by_cases h2 : b = d <;> simp [h1, h2]
theorem tab_snoc {T : Int → Option (Int × Int)} {ks : List Int} {i : Nat} {k : Int} (h : ks[i]? = some k) : tabOf T (ks.take (i + 1)) = tabOf T (ks.take i) ++ [(k, (T k).getD (0, 1))] := by
  unfold tabOf
  rw [take_snoc h, List.map_append]
  rfl
end Mine
namespace Mine
open PySem L2
/-! ### the tails of a ladder are the sums of its shares -/
theorem law_frac {p q lo h n m : Int} (s : Steep p q) (n0 : lo ≤ n) (n1 : n ≤ h) (m0 : lo ≤ m) (m1 : m ≤ h) :
    lawSh p q lo h n m * shD p q (m - n).natAbs = (if m = lo ∨ m = h then tlN p q (m - n).natAbs else shN p q (m - n).natAbs) * shD p q (h - lo).toNat := by
  have e : q ^ (h - lo).toNat = q ^ (h - lo - ((m - n).natAbs : Int)).toNat * q ^ (m - n).natAbs := by
    rw [← Int.pow_add]
    congr 1
    exact toN_abs n0 n1 m0 m1
  unfold lawSh shD
  split
  · unfold tlN
    generalize q ^ (h - lo).toNat = a at e ⊢
    generalize q ^ (h - lo - ((m - n).natAbs : Int)).toNat = b at e ⊢
    generalize q ^ (m - n).natAbs = c at e ⊢
    generalize p ^ (m - n).natAbs = d
    grind
  · unfold shN
    generalize q ^ (h - lo).toNat = a at e ⊢
    generalize q ^ (h - lo - ((m - n).natAbs : Int)).toNat = b at e ⊢
    generalize q ^ (m - n).natAbs = c at e ⊢
    generalize p ^ (m - n).natAbs = d
    grind
def sufI (p q lo h n m : Int) : Int := ((rangeI m (h + 1 - m).toNat).map (lawSh p q lo h n)).sum
theorem suf_cons {p q lo h n m : Int} (hm : m ≤ h) : sufI p q lo h n m = lawSh p q lo h n m + sufI p q lo h n (m + 1) := by
  unfold sufI
  have e : (h + 1 - m).toNat = (h + 1 - (m + 1)).toNat + 1 := by omega
  rw [e, rangeI_cons, List.map_cons, List.sum_cons]
theorem suf_end {p q lo h n : Int} : sufI p q lo h n (h + 1) = 0 := by
  unfold sufI
  have e : (h + 1 - (h + 1)).toNat = 0 := by omega
  rw [e]
  rfl
theorem cancel2 {a b x y : Int} (hx : 1 ≤ x) (hy : 1 ≤ y) (h : a * (x * y) = b * (x * y)) : a = b := by
  have : x * y ≠ 0 := by
    have := Int.mul_pos (show 0 < x by (first | exact Int.lt_of_lt_of_le (b := 1) (by decide +kernel) (by with_reducible assumption) | omega)) (show 0 < y by (first | exact Int.lt_of_lt_of_le (b := 1) (by decide +kernel) (by with_reducible assumption) | omega))
    (first | exact Int.ne_of_gt (by with_reducible assumption) | omega)
  exact Int.eq_of_mul_eq_mul_right this h
theorem tail_sum {p q lo h n : Int} (s : Steep p q) (n0 : lo ≤ n) (n1 : n ≤ h) : ∀ (k : Nat) (m : Int), lo < m → m ≤ h → (h - m).toNat = k → sufI p q lo h n m * tD p q (m - n) = tN p q (m - n) * shD p q (h - lo).toNat := by
  intro k
  induction k with
  | zero =>
    intro m m0 m1 hk
    have e : m = h := by omega
    subst e
    have f := law_frac s n0 n1 (by (first | exact Int.le_of_lt (by with_reducible assumption) | omega) : lo ≤ m) (Int.le_refl m)
    rw [if_pos (Or.inr rfl)] at f
    rw [suf_cons (Int.le_refl m), suf_end, Int.add_zero]
    have c0 : 0 ≤ m - n := by (first | exact Int.sub_nonneg_of_le (by with_reducible assumption) | omega)
    have ek : (m - n).natAbs = (m - n).toNat := by omega
    rw [ek] at f
    unfold tN tD
    rw [if_pos c0, if_pos c0]
    exact f
  | succ k ih =>
    intro m m0 m1 hk
    have i := ih (m + 1) (by omega) (by omega) (by omega)
    have f := law_frac s n0 n1 (by (first | exact Int.le_of_lt (by with_reducible assumption) | omega) : lo ≤ m) m1
    rw [if_neg (by omega)] at f
    have t := tl_step s.p1 s.pq (m - n)
    have d1 := shD_pos s.p1 s.pq (m - n).natAbs
    have d2 := tD_pos s.p1 s.pq (m - n + 1)
    rw [suf_cons m1]
    have em : m + 1 - n = m - n + 1 := by omega
    rw [em] at i
    refine cancel2 d1 d2 ?_
    generalize lawSh p q lo h n m = x at f ⊢
    generalize sufI p q lo h n (m + 1) = y at i ⊢
    generalize shD p q (h - lo).toNat = u at f i ⊢
    generalize shD p q (m - n).natAbs = a at f t ⊢
    generalize shN p q (m - n).natAbs = b at f t
    generalize tD p q (m - n + 1) = c at i t ⊢
    generalize tN p q (m - n + 1) = d at i t
    generalize tD p q (m - n) = e at t ⊢
    generalize tN p q (m - n) = g at t ⊢
    grind
theorem whole_sum {p q lo h n : Int} (s : Steep p q) (n0 : lo ≤ n) (n1 : n ≤ h) (lt : lo < h) : sufI p q lo h n lo = shD p q (h - lo).toNat := by
  have f := law_frac s n0 n1 (Int.le_refl lo) (by (first | exact Int.le_of_lt (by with_reducible assumption) | omega))
  rw [if_pos (Or.inl rfl)] at f
  have t := tail_sum s n0 n1 (h - (lo + 1)).toNat (lo + 1) (by omega) (by omega) rfl
  have d1 := shD_pos s.p1 s.pq (lo - n).natAbs
  have d2 := tD_pos s.p1 s.pq (lo + 1 - n)
  rw [suf_cons (by (first | exact Int.le_of_lt (by with_reducible assumption) | omega))]
  refine cancel2 d1 d2 ?_
  have key : tlN p q (lo - n).natAbs * tD p q (lo + 1 - n) + tN p q (lo + 1 - n) * shD p q (lo - n).natAbs = shD p q (lo - n).natAbs * tD p q (lo + 1 - n) := by
    unfold tN tD
    by_cases c : 0 ≤ lo + 1 - n
    · rw [if_pos c, if_pos c]
      have : lo - n = 0 ∨ lo - n = -1 := by omega
      rcases this with z | z
      · have e1 : (lo - n).natAbs = 0 := by omega
        have e2 : (lo + 1 - n).toNat = 1 := by omega
        rw [e1, e2]
        unfold tlN shD
        simp only [Int.pow_zero, Int.pow_one]
        grind
      · have e1 : (lo - n).natAbs = 1 := by omega
        have e2 : (lo + 1 - n).toNat = 0 := by omega
        rw [e1, e2]
        unfold tlN shD
        simp only [Int.pow_zero, Int.pow_one]
        grind
    · rw [if_neg c, if_neg c]
      have e1 : (1 - (lo + 1 - n)).toNat = (lo - n).natAbs := by omega
      rw [e1]
      generalize tlN p q (lo - n).natAbs = a
      generalize shD p q (lo - n).natAbs = b
      grind
  generalize lawSh p q lo h n lo = x at f ⊢
  generalize sufI p q lo h n (lo + 1) = y at t ⊢
  generalize shD p q (h - lo).toNat = u at f t ⊢
  generalize shD p q (lo - n).natAbs = a at f key ⊢
  generalize tlN p q (lo - n).natAbs = b at f key
  generalize tD p q (lo + 1 - n) = c at t key ⊢
  generalize tN p q (lo + 1 - n) = d at t key
  grind
/-! ### who says yes at a mark -/
def lowP (c w : Int) : Int × Int := (low1 c w, low2 c w)
theorem lowP_eq {a b c d : Int} (ha : 0 ≤ a) (hb : 1 ≤ b) (hc : 0 ≤ c) (hd : 1 ≤ d) (h : a * d = c * b) : lowP a b = lowP c d := by
  have e := low_eq ha hb hc hd h
  unfold lowP
  rw [e.1, e.2]
theorem lowP_one {w : Int} (h : 1 ≤ w) : lowP w w = (1, 1) := by
  have e := lowP_eq (a := w) (b := w) (c := 1) (d := 1) (by (first | exact Int.le_trans (b := 1) (by decide +kernel) (by with_reducible assumption) | omega)) h (by decide) (by decide) (by omega)
  rw [e]
  decide
theorem lowP_zero {w : Int} (h : 1 ≤ w) : lowP 0 w = (0, 1) := by
  have e := lowP_eq (a := 0) (b := w) (c := 0) (d := 1) (by omega) h (by decide) (by decide) (by omega)
  rw [e]
  decide
theorem sum_nonneg : ∀ {l : List Int}, (∀ x ∈ l, 1 ≤ x) → 0 ≤ l.sum
  | [], _ => by decide
  | a :: r, h => by
    rw [List.sum_cons]
    have := h a List.mem_cons_self
    have := sum_nonneg fun x hx => h x (List.mem_cons_of_mem _ hx)
    omega
theorem shares_sum {p q lo h n : Int} (s : Steep p q) (n0 : lo ≤ n) (n1 : n ≤ h) : (sharesI p q lo h n).sum = botI p q lo h := by
  unfold sharesI botI
  by_cases c : lo = h
  · rw [if_pos c, if_pos c]; rfl
  · rw [if_neg c, if_neg c]
    exact whole_sum s n0 n1 (by omega)
end Mine
namespace Mine
open PySem L2
/-! ### products and sums of fractions over a common bottom -/
theorem mul_low {a b c d : Int} (ha : 0 ≤ a) (hb : 1 ≤ b) (hc : 0 ≤ c) (hd : 1 ≤ d) : lowP ((lowP a b).1 * (lowP c d).1) ((lowP a b).2 * (lowP c d).2) = lowP (a * c) (b * d) := by
  have r1 := low_ratio ha hb
  have r2 := low_ratio hc hd
  have n1 := low1_nonneg (b := b) ha
  have n2 := low1_nonneg (b := d) hc
  have p1 := low2_pos (a := a) hb
  have p2 := low2_pos (a := c) hd
  have q1 := Int.mul_nonneg n1 n2
  have q2 := Int.mul_pos (show 0 < low2 a b by (first | exact Int.lt_of_lt_of_le (b := 1) (by decide +kernel) (by with_reducible assumption) | omega)) (show 0 < low2 c d by (first | exact Int.lt_of_lt_of_le (b := 1) (by decide +kernel) (by with_reducible assumption) | omega))
  have q3 := Int.mul_nonneg ha hc
  have q4 := Int.mul_pos (show 0 < b by (first | exact Int.lt_of_lt_of_le (b := 1) (by decide +kernel) (by with_reducible assumption) | omega)) (show 0 < d by (first | exact Int.lt_of_lt_of_le (b := 1) (by decide +kernel) (by with_reducible assumption) | omega))
  refine lowP_eq q1 (by show 1 ≤ low2 a b * low2 c d; (first | exact Int.add_one_le_of_lt (a := 0) (by with_reducible assumption) | omega)) q3 (by (first | exact Int.add_one_le_of_lt (a := 0) (by with_reducible assumption) | omega)) ?_
  show low1 a b * low1 c d * (b * d) = a * c * (low2 a b * low2 c d)
  generalize low1 a b = x at r1 ⊢
  generalize low2 a b = y at r1 ⊢
  generalize low1 c d = z at r2 ⊢
  generalize low2 c d = w at r2 ⊢
  grind
theorem add_low {a b w : Int} (ha : 0 ≤ a) (hb : 0 ≤ b) (hw : 1 ≤ w) : addF (lowP a w) (lowP b w) = lowP (a + b) w := by
  have r1 := low_ratio ha hw
  have r2 := low_ratio hb hw
  have n1 := low1_nonneg (b := w) ha
  have n2 := low1_nonneg (b := w) hb
  have p1 := low2_pos (a := a) hw
  have p2 := low2_pos (a := b) hw
  have q1 := Int.mul_nonneg n1 (show 0 ≤ low2 b w by (first | exact Int.le_trans (b := 1) (by decide +kernel) (by with_reducible assumption) | omega))
  have q2 := Int.mul_nonneg n2 (show 0 ≤ low2 a w by (first | exact Int.le_trans (b := 1) (by decide +kernel) (by with_reducible assumption) | omega))
  have q3 := Int.mul_pos (show 0 < low2 a w by (first | exact Int.lt_of_lt_of_le (b := 1) (by decide +kernel) (by with_reducible assumption) | omega)) (show 0 < low2 b w by (first | exact Int.lt_of_lt_of_le (b := 1) (by decide +kernel) (by with_reducible assumption) | omega))
  show lowP (low1 a w * low2 b w + low1 b w * low2 a w) (low2 a w * low2 b w) = _
  refine lowP_eq (by omega) (by (first | exact Int.add_one_le_of_lt (a := 0) (by with_reducible assumption) | omega)) (by omega) hw ?_
  generalize low1 a w = x at r1 ⊢
  generalize low2 a w = y at r1 ⊢
  generalize low1 b w = z at r2 ⊢
  generalize low2 b w = v at r2 ⊢
  grind
theorem sub_low {a c u : Int} (ha : 0 ≤ a) (hc : 0 ≤ c) (hu : 1 ≤ u) (h : a + c = u) : lowP (1 * (lowP a u).2 - (lowP a u).1 * 1) (1 * (lowP a u).2) = lowP c u := by
  have r1 := low_ratio ha hu
  have n1 := low1_nonneg (b := u) ha
  have p1 := low2_pos (a := a) hu
  have l2 := low_le (a := a) (b := u) (by omega) hu
  refine lowP_eq (by show 0 ≤ 1 * low2 a u - low1 a u * 1; omega) (by show 1 ≤ 1 * low2 a u; omega) hc hu ?_
  show (1 * low2 a u - low1 a u * 1) * u = c * (1 * low2 a u)
  generalize low1 a u = x at r1 ⊢
  generalize low2 a u = y at r1 ⊢
  grind
/-! ### totals over a common bottom -/
def cntA : (Int → Int) → List (Int × Int) → Int → Int
  | c, [] => c
  | c, e :: r => cntA (fun z => if z = e.1 then c z + e.2 else c z) r
theorem cnt_not : ∀ (c : Int → Int) (es : List (Int × Int)) (y : Int), (∀ e ∈ es, e.1 ≠ y) → cntA c es y = c y
  | c, [], y, _ => rfl
  | c, e :: r, y, h => by
    have h1 : ¬ y = e.1 := fun z => h e List.mem_cons_self z.symm
    show cntA (fun z => if z = e.1 then c z + e.2 else c z) r y = c y
    rw [cnt_not _ r y fun x hx => h x (List.mem_cons_of_mem _ hx)]
    exact if_neg h1
def OkT (w : Int) (T : Int → Option (Int × Int)) (c : Int → Int) : Prop := ∀ y, (T y = none ∧ c y = 0) ∨ T y = some (lowP (c y) w)
theorem OkT.get {w : Int} {T : Int → Option (Int × Int)} {c : Int → Int} (hw : 1 ≤ w) (h : OkT w T c) (y : Int) : (T y).getD (0, 1) = lowP (c y) w := by
  rcases h y with ⟨e1, e2⟩ | e
  · rw [e1, e2, lowP_zero hw]; rfl
  · rw [e]; rfl
theorem OkT.step {w : Int} {T : Int → Option (Int × Int)} {c : Int → Int} (hw : 1 ≤ w) (hc : ∀ y, 0 ≤ c y) (h : OkT w T c) {k v : Int} (hv : 0 ≤ v) : OkT w (stepT T (k, lowP v w)) (fun z => if z = k then c z + v else c z) := by
  intro y
  unfold stepT
  by_cases e : y = k
  · refine .inr ?_
    simp only [e, if_true]
    rw [h.get hw k, add_low (hc k) hv hw]
  · simp only [e, if_false]
    exact h y
theorem tot_low {w : Int} (hw : 1 ≤ w) : ∀ (es : List (Int × Int)) (T : Int → Option (Int × Int)) (c : Int → Int), (∀ y, 0 ≤ c y) → (∀ e ∈ es, 0 ≤ e.2) → OkT w T c → OkT w ((es.map fun e => ((e.1, lowP e.2 w) : Int × Int × Int)).foldl stepT T) (cntA c es)
  | [], T, c, _, _, h => h
  | e :: r, T, c, hc, he, h => by
    simp only [List.map_cons, List.foldl_cons]
    have h1 := he e List.mem_cons_self
    exact tot_low hw r _ _ (fun z => by have := hc z; split <;> omega) (fun x hx => he x (List.mem_cons_of_mem _ hx)) (h.step hw hc h1)
theorem low_safe {w b v : Int} (hw : 1 ≤ w) (hb : w < 2 ^ 180) (hv : 0 ≤ v) : ∀ (es : List (Int × Int)) (T : Int → Option (Int × Int)) (c : Int → Int) (b : Int), (∀ y, 0 ≤ c y ∧ c y ≤ b) → (∀ e ∈ es, 0 ≤ e.2 ∧ e.2 ≤ v) → b + es.length * v < 2 ^ 180 → v < 2 ^ 180 → OkT w T c → Safe T (es.map fun e => (e.1, lowP e.2 w))
  | [], _, _, _, _, _, _, _, _ => trivial
  | e :: r, T, c, b, hc, he, hbd, hv2, h => by
    have h1 := he e List.mem_cons_self
    have e3 : ((e :: r).length : Int) * v = v + (r.length : Int) * v := by
      rw [List.length_cons]
      push_cast
      rw [Int.add_mul, Int.one_mul, Int.add_comm]
    rw [e3] at hbd
    have rv : 0 ≤ (r.length : Int) * v := Int.mul_nonneg (by (first | with_reducible exact Int.natCast_nonneg _ | omega)) hv
    refine ⟨?_, low_fr h1.1 (by omega) hw hb, low_safe (b := b) hw hb hv r _ _ (b + v) (fun z => by have := hc z; split <;> omega) (fun x hx => he x (List.mem_cons_of_mem _ hx)) (by omega) hv2 (h.step hw (fun y => (hc y).1) h1.1)⟩
    have ck := hc e.1
    show Fr72 ((T e.1).getD (0, 1))
    rw [h.get hw]
    exact low_fr ck.1 (by omega) hw hb
end Mine
namespace Mine
open PySem L2
/-! ### the cells of a first -/
def lowE (w : Int) (e : Int × Int) : Int × Int × Int := (e.1, lowP e.2 w)
theorem bot34 {p q lo hi : Int} (s : Steep p q) (a : 0 ≤ lo) (b : lo ≤ hi) (c : hi ≤ 9) : 1 ≤ botI p q lo hi ∧ botI p q lo hi < 2 ^ 34 := by
  obtain ⟨p1, pq, q9⟩ := id s
  unfold botI
  split
  · decide
  · have e1 := shD_pos p1 pq (hi - lo).toNat
    refine ⟨e1, ?_⟩
    have hq := pow_le (p := q) (q := 9) (by omega) q9 (hi - lo).toNat
    have m9 : ∀ j : Nat, j ≤ 9 → (9 : Int) ^ j < 2 ^ 29 := by decide
    have b1 := m9 (hi - lo).toNat (by omega)
    have q0 : 0 < q ^ (hi - lo).toNat := Int.pow_pos (by omega)
    have m := mul_bd (a := q + p) (b := q ^ (hi - lo).toNat) (m := 5) (n := 29) (by omega) (by omega) (by (first | exact Int.le_of_lt (by with_reducible assumption) | omega)) (by omega)
    exact m.2
theorem sh_le_bot {p q lo hi n y : Int} (s : Steep p q) (n0 : lo ≤ n) (n1 : n ≤ hi) (lt : lo < hi) (y0 : lo ≤ y) (y1 : y ≤ hi) : lawSh p q lo hi n y ≤ botI p q lo hi := by
  rw [← shares_sum s n0 n1]
  have hm : lawSh p q lo hi n y ∈ sharesI p q lo hi n := by
    unfold sharesI
    rw [if_neg (by omega)]
    exact List.mem_map.mpr ⟨y, mem_rangeI.mpr ⟨y0, by omega⟩, rfl⟩
  have pos := shares_pos (lo := lo) (hi := hi) (n := n) s
  have gen : ∀ (l : List Int), (∀ x ∈ l, 1 ≤ x) → ∀ z ∈ l, z ≤ l.sum := by
    intro l
    induction l with
    | nil => intro _ z hz; cases hz
    | cons a r ih =>
      intro h z hz
      have hs := sum_nonneg fun x hx => h x (List.mem_cons_of_mem _ hx)
      have ha := h a List.mem_cons_self
      rw [List.sum_cons]
      rcases List.mem_cons.mp hz with e | e
      · subst e; omega
      · have := ih (fun x hx => h x (List.mem_cons_of_mem _ hx)) z e
        omega
  exact gen _ pos _ hm
theorem ladder_ents {p q lo hi n : Int} (s : Steep p q) (n0 : lo ≤ n) (n1 : n ≤ hi) (lt : lo < hi) : tableI p q lo hi n = (rangeI lo (hi + 1 - lo).toNat).map fun y => (y, lowP (lawSh p q lo hi n y) (botI p q lo hi)) := by
  rw [← law_table s n0 n1]
  unfold sharesI
  rw [if_neg (by omega), tabL_map]
  rfl
end Mine
namespace Mine
/-! ### ladders thrown again, over whole numbers: rungs 0 .. N -/
def stps : List (Nat × Nat) := ((List.range 8).map (· + 2)).flatMap fun q => ((List.range (q - 1)).map (· + 1)).filterMap fun p => if Nat.gcd p q = 1 then some (p, q) else none
/-- a ladder's share of z, of the number x, over lBot -/
def lSh (p q N x z : Nat) : Nat := if N = 0 then 1 else p ^ (Nat.max x z - Nat.min x z) * q ^ (N - (Nat.max x z - Nat.min x z)) * (if z = 0 ∨ z = N then q else q - p)
def lBot (p q N : Nat) : Nat := if N = 0 then 1 else (q + p) * q ^ N
/-- what is moved of a rung, over mBot: at an end, within -/
def mBot (pa qa pb qb : Nat) : Nat := pb * (qa - pa) * (qb * (qa - pa))
def mTop (pa qa pb qb N y : Nat) : Nat := if y = 0 ∨ y = N then (qa * pb - pa * qb) * (qb * (qa - pa)) else (qa * pb - pa * qb) * (qa * qb - pa * pb)
/-- the rows between, over mBot * lBot -/
def rTop (pa qa pb qb N y z : Nat) : Nat := mTop pa qa pb qb N y * lSh pb qb N y z + (if z = y then (mBot pa qa pb qb - mTop pa qa pb qb N y) * lBot pb qb N else 0)
def sumTo (f : Nat → Nat) : Nat → Nat
  | 0 => f 0
  | n + 1 => sumTo f n + f (n + 1)
def allTo (f : Nat → Bool) : Nat → Bool
  | 0 => f 0
  | n + 1 => allTo f n && f (n + 1)
theorem allTo_at {f : Nat → Bool} : ∀ {N : Nat}, allTo f N = true → ∀ x, x ≤ N → f x = true
  | 0, h, x, hx => by
    have e : x = 0 := by omega
    rw [e]; exact h
  | n + 1, h, x, hx => by
    have h' : allTo f n = true ∧ f (n + 1) = true := Bool.and_eq_true_iff.mp h
    by_cases e : x = n + 1
    · rw [e]; exact h'.2
    · exact allTo_at h'.1 x (by omega)
/-- the ladder of a thrown again is that of b -/
def chk (a b : Nat × Nat) (N : Nat) : Bool := allTo (fun x => allTo (fun z => Nat.beq (sumTo (fun y => lSh a.1 a.2 N x y * rTop a.1 a.2 b.1 b.2 N y z) N) (lSh b.1 b.2 N x z * (lBot a.1 a.2 N * mBot a.1 a.2 b.1 b.2))) N) N
/-- .. and at most all is moved -/
def chkLe (a b : Nat × Nat) (N : Nat) : Bool := allTo (fun y => Nat.ble (mTop a.1 a.2 b.1 b.2 N y) (mBot a.1 a.2 b.1 b.2)) N
def chkA (a : Nat × Nat) : Bool := stps.all fun b => if a.1 * b.2 ≤ b.1 * a.2 then allTo (fun N => chk a b N && chkLe a b N) 9 else true
end Mine
namespace Mine
def sumZ (f : Nat → Int) : Nat → Int
  | 0 => f 0
  | n + 1 => sumZ f n + f (n + 1)
theorem sumZ_cast (f : Nat → Nat) : ∀ N, ((sumTo f N : Nat) : Int) = sumZ (fun y => (f y : Int)) N
  | 0 => rfl
  | n + 1 => by
    show ((sumTo f n + f (n + 1) : Nat) : Int) = sumZ _ n + _
    rw [Int.natCast_add, sumZ_cast f n]
theorem sumZ_congr {f g : Nat → Int} : ∀ {N : Nat}, (∀ y, y ≤ N → f y = g y) → sumZ f N = sumZ g N
  | 0, h => h 0 (Nat.le_refl _)
  | n + 1, h => by
    show sumZ f n + f (n + 1) = sumZ g n + g (n + 1)
    rw [sumZ_congr fun y hy => h y (by omega), h (n + 1) (Nat.le_refl _)]
theorem sumZ_add (f g : Nat → Int) : ∀ N, sumZ (fun y => f y + g y) N = sumZ f N + sumZ g N
  | 0 => rfl
  | n + 1 => by
    show sumZ (fun y => f y + g y) n + (f (n + 1) + g (n + 1)) = (sumZ f n + f (n + 1)) + (sumZ g n + g (n + 1))
    rw [sumZ_add f g n]; omega
theorem sumZ_mul (k : Int) (f : Nat → Int) : ∀ N, sumZ (fun y => k * f y) N = k * sumZ f N
  | 0 => rfl
  | n + 1 => by
    show sumZ (fun y => k * f y) n + _ = k * (sumZ f n + f (n + 1))
    rw [sumZ_mul k f n, Int.mul_add]
theorem sumZ_zero : ∀ N, sumZ (fun _ => 0) N = 0
  | 0 => rfl
  | n + 1 => by
    show sumZ (fun _ => 0) n + 0 = 0
    rw [sumZ_zero n]; rfl
theorem sumZ_one (k : Int) (f : Nat → Int) (x : Nat) : ∀ {N : Nat}, x ≤ N → sumZ (fun y => (if x = y then k else 0) * f y) N = k * f x
  | 0, h => by
    have e : x = 0 := by omega
    subst e
    show (if 0 = 0 then k else 0) * f 0 = _
    rw [if_pos rfl]
  | n + 1, h => by
    show sumZ (fun y => (if x = y then k else 0) * f y) n + (if x = n + 1 then k else 0) * f (n + 1) = _
    by_cases e : x = n + 1
    · subst e
      rw [if_pos rfl, sumZ_congr (g := fun _ => 0) (fun y hy => by rw [if_neg (by omega), Int.zero_mul]), sumZ_zero, Int.zero_add]
    · rw [if_neg e, Int.zero_mul, sumZ_one k f x (by omega), Int.add_zero]
theorem chk_eq {a b : Nat × Nat} {N : Nat} (h : chk a b N = true) {x z : Nat} (hx : x ≤ N) (hz : z ≤ N) : sumZ (fun y => (lSh a.1 a.2 N x y : Int) * (rTop a.1 a.2 b.1 b.2 N y z : Int)) N = (lSh b.1 b.2 N x z : Int) * ((lBot a.1 a.2 N : Int) * (mBot a.1 a.2 b.1 b.2 : Int)) := by
  have q := Nat.eq_of_beq_eq_true (allTo_at (allTo_at h x hx) z hz)
  have q' := congrArg (fun n : Nat => (n : Int)) q
  simp only [sumZ_cast, Int.natCast_mul] at q'
  exact q'
end Mine
namespace Mine
theorem ca_0 : chkA (1, 2) = true := by decide +kernel
theorem ca_1 : chkA (1, 3) = true := by decide +kernel
theorem ca_2 : chkA (2, 3) = true := by decide +kernel
theorem ca_3 : chkA (1, 4) = true := by decide +kernel
theorem ca_4 : chkA (3, 4) = true := by decide +kernel
theorem ca_5 : chkA (1, 5) = true := by decide +kernel
theorem ca_6 : chkA (2, 5) = true := by decide +kernel
theorem ca_7 : chkA (3, 5) = true := by decide +kernel
theorem ca_8 : chkA (4, 5) = true := by decide +kernel
theorem ca_9 : chkA (1, 6) = true := by decide +kernel
theorem ca_10 : chkA (5, 6) = true := by decide +kernel
theorem ca_11 : chkA (1, 7) = true := by decide +kernel
theorem ca_12 : chkA (2, 7) = true := by decide +kernel
theorem ca_13 : chkA (3, 7) = true := by decide +kernel
theorem ca_14 : chkA (4, 7) = true := by decide +kernel
theorem ca_15 : chkA (5, 7) = true := by decide +kernel
theorem ca_16 : chkA (6, 7) = true := by decide +kernel
theorem ca_17 : chkA (1, 8) = true := by decide +kernel
theorem ca_18 : chkA (3, 8) = true := by decide +kernel
theorem ca_19 : chkA (5, 8) = true := by decide +kernel
theorem ca_20 : chkA (7, 8) = true := by decide +kernel
theorem ca_21 : chkA (1, 9) = true := by decide +kernel
theorem ca_22 : chkA (2, 9) = true := by decide +kernel
theorem ca_23 : chkA (4, 9) = true := by decide +kernel
theorem ca_24 : chkA (5, 9) = true := by decide +kernel
theorem ca_25 : chkA (7, 9) = true := by decide +kernel
theorem ca_26 : chkA (8, 9) = true := by decide +kernel
theorem stps_eq : stps = [(1, 2), (1, 3), (2, 3), (1, 4), (3, 4), (1, 5), (2, 5), (3, 5), (4, 5), (1, 6), (5, 6), (1, 7), (2, 7), (3, 7), (4, 7), (5, 7), (6, 7), (1, 8), (3, 8), (5, 8), (7, 8), (1, 9), (2, 9), (4, 9), (5, 9), (7, 9), (8, 9)] := by decide +kernel
theorem all_a : stps.all chkA = true := by
  rw [stps_eq]
  simp only [List.all_cons, List.all_nil, Bool.and_self, ca_0, ca_1, ca_2, ca_3, ca_4, ca_5, ca_6, ca_7, ca_8, ca_9, ca_10, ca_11, ca_12, ca_13, ca_14, ca_15, ca_16, ca_17, ca_18, ca_19, ca_20, ca_21, ca_22, ca_23, ca_24, ca_25, ca_26]
end Mine
namespace Mine
open PySem L2
/-! ### tables over one bottom -/
def InR (lo : Int) (m : Nat) (y : Int) : Prop := lo ≤ y ∧ y < lo + m
def tabP (lo : Int) (m : Nat) (w : Int) (F : Int → Int) : List (Int × Int × Int) := ((rangeI lo m).filter fun y => decide (0 < F y)).map fun y => (y, lowP (F y) w)
theorem tabP_congr {lo : Int} {m : Nat} {w : Int} {F G : Int → Int} (h : ∀ y, InR lo m y → F y = G y) : tabP lo m w F = tabP lo m w G := by
  unfold tabP
  have e1 : (rangeI lo m).filter (fun y => decide (0 < F y)) = (rangeI lo m).filter (fun y => decide (0 < G y)) := by
    refine List.filter_congr fun y hy => ?_
    have hy := mem_rangeI.mp hy
    rw [h y ⟨hy.1, by omega⟩]
  rw [e1]
  refine List.map_congr_left fun y hy => ?_
  have hy := mem_rangeI.mp (List.mem_filter.mp hy).1
  rw [h y ⟨hy.1, by omega⟩]
theorem tabP_len {lo : Int} {m : Nat} {w : Int} {F : Int → Int} : (tabP lo m w F).length ≤ m := by
  unfold tabP
  rw [List.length_map]
  exact Nat.le_trans (List.length_filter_le _ _) (by rw [rangeI_len]; exact Nat.le_refl _)
/-- different members within a range -/
theorem nodup_len : ∀ {m : Nat} {l : List Int} {lo : Int}, l.Nodup → (∀ x ∈ l, InR lo m x) → l.length ≤ m
  | 0, [], _, _, _ => Nat.le_refl _
  | 0, a :: r, lo, _, h => by
    have := h a List.mem_cons_self
    unfold InR at this
    omega
  | m + 1, l, lo, n, h => by
    have ih := nodup_len (m := m) (l := l.erase lo) (lo := lo + 1) (n.erase _) (fun x hx => by
      have h1 := h x (List.mem_of_mem_erase hx)
      have h2 : x ≠ lo := fun z => by rw [z] at hx; exact (List.Nodup.not_mem_erase n) hx
      unfold InR at *
      omega)
    have := @List.length_erase _ _ _ lo l
    rw [this] at ih
    split at ih <;> omega
/-- the table of totals, from lo on -/
theorem tot_tableP {w lo : Int} (hw : 1 ≤ w) {es : List (Int × Int)} (he : ∀ e ∈ es, 0 ≤ e.2) {m : Nat} (hk : ∀ e ∈ es, InR lo m e.1) {ks : List Int} (hr : ks.Pairwise (· < ·)) (hm : ∀ k, k ∈ ks ↔ ∃ u, totF (es.map (lowE w)) k = some u ∧ u ≠ (0, 1)) :
    tabOf (totF (es.map (lowE w))) ks = tabP lo m w (cntA (fun _ => 0) es) := by
  have tt : OkT w (totF (es.map (lowE w))) (cntA (fun _ => 0) es) := tot_low hw es (fun _ => none) (fun _ => 0) (fun _ => Int.le_refl _) he (fun _ => .inl ⟨rfl, rfl⟩)
  have nn : ∀ (l : List (Int × Int)) (c : Int → Int), (∀ y, 0 ≤ c y) → (∀ e ∈ l, 0 ≤ e.2) → ∀ y, 0 ≤ cntA c l y := by
    intro l
    induction l with
    | nil => intro c h _ y; exact h y
    | cons e r ih =>
      intro c h he y
      have := he e List.mem_cons_self
      exact ih _ (fun z => by have := h z; split <;> omega) (fun x hx => he x (List.mem_cons_of_mem _ hx)) y
  have c0 := nn es (fun _ => 0) (fun _ => Int.le_refl _) he
  generalize hT : totF (es.map (lowE w)) = T at tt hm ⊢
  have inr : ∀ k, cntA (fun _ => 0) es k ≠ 0 → InR lo m k := fun k hk' => by
    by_cases q : ∃ e ∈ es, e.1 = k
    · obtain ⟨e, he', rfl⟩ := q
      exact hk e he'
    · exact absurd (cnt_not (fun _ => 0) es k fun e he' z => q ⟨e, he', z⟩) hk'
  generalize cntA (fun _ => 0) es = c at tt c0 inr ⊢
  have ne : ∀ a, 0 < a → lowP a w ≠ (0, 1) := fun a ha z => by
    have q1 : low1 a w = 0 := congrArg Prod.fst z
    have := low1_pos (S := a) (P := w) (by (first | exact Int.add_one_le_of_lt (a := 0) (by with_reducible assumption) | omega)) hw
    omega
  have ek : ks = (rangeI lo m).filter fun y => decide (0 < c y) := by
    refine rise_ext hr ((range_rise lo _).sublist List.filter_sublist) fun k => ?_
    rw [hm k, List.mem_filter, mem_rangeI, decide_eq_true_eq]
    have ck := c0 k
    constructor
    · rintro ⟨u, e1, e2⟩
      rcases tt k with ⟨z, _⟩ | z
      · rw [z] at e1; cases e1
      · rw [z] at e1
        cases e1
        by_cases q : c k = 0
        · rw [q, lowP_zero hw] at e2
          exact absurd rfl e2
        · have := inr k q
          exact ⟨⟨this.1, by have := this.2; (first | with_reducible assumption | omega)⟩, by omega⟩
    · rintro ⟨_, q⟩
      rcases tt k with ⟨_, z⟩ | z
      · omega
      · exact ⟨_, z, ne _ q⟩
  unfold tabOf tabP
  rw [ek]
  refine List.map_congr_left fun y hy => ?_
  have hy2 : 0 < c y := of_decide_eq_true (List.mem_filter.mp hy).2
  rcases tt y with ⟨_, z⟩ | z
  · omega
  · rw [z]
    rfl
/-! ### cells -/
def keyP (k : Int) (es : List (Int × Int)) : List (Int × Int) := es.filter fun e => decide (e.1 = k)
theorem cnt_sum : ∀ (es : List (Int × Int)) (c : Int → Int) (k : Int), cntA c es k = c k + ((keyP k es).map (·.2)).sum
  | [], c, k => by simp [cntA, keyP]
  | e :: r, c, k => by
    show cntA (fun z => if z = e.1 then c z + e.2 else c z) r k = _
    rw [cnt_sum r _ k]
    unfold keyP
    rw [List.filter_cons]
    by_cases q : e.1 = k
    · simp [q]; omega
    · simp [q]
      exact fun z => absurd z.symm q
theorem key_app (k : Int) (es fs : List (Int × Int)) : keyP k (es ++ fs) = keyP k es ++ keyP k fs := List.filter_append _ _
theorem key_list (h : Int → Int) (k : Int) : ∀ l : List Int, l.Nodup → keyP k (l.map fun x => (x, h x)) = if k ∈ l then [(k, h k)] else []
  | [], _ => rfl
  | a :: r, n => by
    obtain ⟨n1, n2⟩ := List.nodup_cons.mp n
    have ih := key_list h k r n2
    unfold keyP at ih ⊢
    rw [List.map_cons, List.filter_cons, ih]
    by_cases q : a = k
    · subst q
      simp [n1]
    · have : ¬ k = a := fun z => q z.symm
      simp [q, this]
def liveF (lo : Int) (m : Nat) (f : Int → Int) : List Int := (rangeI lo m).filter fun y => decide (0 < f y)
theorem range_nodup (lo : Int) (m : Nat) : (rangeI lo m).Nodup := (range_rise lo m).imp fun h => by omega
theorem sum_live {f : Int → Int} {u : Int → Int} : ∀ l : List Int, (∀ y ∈ l, 0 ≤ f y) → ((l.filter fun y => decide (0 < f y)).map fun y => f y * u y).sum = (l.map fun y => f y * u y).sum
  | [], _ => rfl
  | y :: r, h => by
    have ih := sum_live (u := u) r fun x hx => h x (List.mem_cons_of_mem _ hx)
    have f0 := h y List.mem_cons_self
    rw [List.filter_cons]
    by_cases q : 0 < f y
    · rw [if_pos (by simp [q])]
      simp only [List.map_cons, List.sum_cons, ih]
    · have e : f y = 0 := by omega
      rw [if_neg (by simp [q]), List.map_cons, List.sum_cons, ih, e]
      simp
theorem mem_live {lo : Int} {m : Nat} {f : Int → Int} {y : Int} : y ∈ liveF lo m f ↔ InR lo m y ∧ 0 < f y := by
  unfold liveF InR
  rw [List.mem_filter, mem_rangeI, decide_eq_true_eq]
/-! ### as the law reckons it: tops and bottoms not brought down -/
structure DueU (w c : Int) (n : Nat) (u : Int × Int) : Prop where
  r : u.1 * w = c * u.2
  a : 0 ≤ u.1
  b : 1 ≤ u.2
  ba : Bits (161 * n + 1) u.1
  bb : Bits (161 * n + 1) u.2
end Mine
namespace Mine
open PySem L2
/-! ### rows between two ladders -/
def mOf (lo hi : Int) : Nat := (hi + 1 - lo).toNat
def nOf (lo hi : Int) : Nat := (hi - lo).toNat
structure PairOk (a b : Nat × Nat) : Prop where
  ha : a ∈ stps
  hb : b ∈ stps
  le : a.1 * b.2 ≤ b.1 * a.2
theorem stp_nat : ∀ a ∈ stps, 1 ≤ a.1 ∧ a.1 < a.2 ∧ a.2 ≤ 9 := by decide
theorem stp_ok {a : Nat × Nat} (h : a ∈ stps) : Steep (a.1 : Int) (a.2 : Int) := by
  have := stp_nat a h
  exact ⟨by omega, by omega, by omega⟩
theorem pair_all {a b : Nat × Nat} (h : PairOk a b) {N : Nat} (hN : N ≤ 9) : chk a b N = true ∧ chkLe a b N = true := by
  have h1 := List.all_eq_true.mp all_a a h.ha
  have h2 := List.all_eq_true.mp h1 b h.hb
  simp only [if_pos h.le] at h2
  have h3 := allTo_at h2 N hN
  exact Bool.and_eq_true_iff.mp h3
theorem m_le {a b : Nat × Nat} (h : PairOk a b) {N y : Nat} (hN : N ≤ 9) (hy : y ≤ N) : mTop a.1 a.2 b.1 b.2 N y ≤ mBot a.1 a.2 b.1 b.2 := Nat.le_of_ble_eq_true (allTo_at (pair_all h hN).2 y hy)
theorem mBot_bd {a b : Nat × Nat} (h : PairOk a b) : 1 ≤ mBot a.1 a.2 b.1 b.2 ∧ mBot a.1 a.2 b.1 b.2 < 2 ^ 13 := by
  have h1 := stp_nat a h.ha
  have h2 := stp_nat b h.hb
  unfold mBot
  have e1 : 0 < b.1 * (a.2 - a.1) := Nat.mul_pos (by omega) (by omega)
  have e2 : 0 < b.2 * (a.2 - a.1) := Nat.mul_pos (by omega) (by omega)
  have e3 := Nat.mul_pos e1 e2
  have l1 : b.1 * (a.2 - a.1) ≤ 8 * 8 := Nat.mul_le_mul (by omega) (by omega)
  have l2 : b.2 * (a.2 - a.1) ≤ 9 * 8 := Nat.mul_le_mul (by omega) (by omega)
  have l3 := Nat.mul_le_mul l1 l2
  omega
theorem end_iff {lo hi y : Int} (y0 : lo ≤ y) (y1 : y ≤ hi) : ((y - lo).toNat = 0 ∨ (y - lo).toNat = (hi - lo).toNat) ↔ (y = lo ∨ y = hi) := by omega
theorem lSh_law {a : Nat × Nat} (h : a ∈ stps) {lo hi n y : Int} (n0 : lo ≤ n) (n1 : n ≤ hi) (y0 : lo ≤ y) (y1 : y ≤ hi) (lt : lo < hi) :
    ((lSh a.1 a.2 (nOf lo hi) (n - lo).toNat (y - lo).toNat : Nat) : Int) = lawSh a.1 a.2 lo hi n y := by
  have h1 := stp_nat a h
  unfold lSh lawSh nOf
  have e1 : Nat.max (n - lo).toNat (y - lo).toNat - Nat.min (n - lo).toNat (y - lo).toNat = (y - n).natAbs := by
    obtain ⟨i, ei⟩ := Int.eq_ofNat_of_zero_le (Int.sub_nonneg_of_le n0)
    obtain ⟨j, ej⟩ := Int.eq_ofNat_of_zero_le (Int.sub_nonneg_of_le y0)
    have e : y - n = (j : Int) - i := by clear h h1 lt n1 y1; omega
    rw [ei, ej, e, Int.toNat_natCast, Int.toNat_natCast]
    clear h h1 lt n1 y1 n0 y0 ei ej e
    show max i j - min i j = _
    rcases Nat.le_total i j with z | z
    · rw [Nat.max_eq_right z, Nat.min_eq_left z]; omega
    · rw [Nat.max_eq_left z, Nat.min_eq_right z]; omega
  rw [if_neg (by omega), e1]
  have e2 : (hi - lo).toNat - (y - n).natAbs = (hi - lo - ((y - n).natAbs : Int)).toNat := Nat.sub_eq_of_eq_add (toN_abs n0 n1 y0 y1)
  rw [e2]
  have e3 := end_iff y0 y1
  simp only [e3, Int.natCast_mul, Int.natCast_pow]
  congr 1
  split
  · rfl
  · omega
theorem lBot_bot {a : Nat × Nat} {lo hi : Int} (le : lo ≤ hi) : ((lBot a.1 a.2 (nOf lo hi) : Nat) : Int) = botI a.1 a.2 lo hi := by
  unfold lBot botI shD nOf
  by_cases c : lo = hi
  · rw [if_pos c, if_pos (by omega)]; rfl
  · rw [if_neg c, if_neg (by omega)]
    simp only [Int.natCast_mul, Int.natCast_pow, Int.natCast_add]
theorem lad_ents {a : Nat × Nat} (h : a ∈ stps) {lo hi n : Int} (n0 : lo ≤ n) (n1 : n ≤ hi) :
    tableI a.1 a.2 lo hi n = (rangeI lo (mOf lo hi)).map fun z => (z, lowP ((lSh a.1 a.2 (nOf lo hi) (n - lo).toNat (z - lo).toNat : Nat) : Int) ((lBot a.1 a.2 (nOf lo hi) : Nat) : Int)) := by
  by_cases c : lo = hi
  · subst c
    have e1 : mOf lo lo = 1 := by unfold mOf; omega
    have e2 : nOf lo lo = 0 := by unfold nOf; omega
    have e3 : n = lo := by omega
    subst e3
    rw [e1, e2]
    unfold tableI lSh lBot
    simp only [if_true]
    rw [show rangeI n 1 = [n] from by simp [rangeI]]
    simp only [List.map_cons, List.map_nil]
    rw [show ((1 : Nat) : Int) = 1 from rfl, lowP_one (by decide)]
  · rw [ladder_ents (stp_ok h) n0 n1 (by omega)]
    unfold mOf
    refine List.map_congr_left fun z hz => ?_
    have hz := mem_rangeI.mp hz
    rw [lSh_law h n0 n1 hz.1 (by omega) (by omega), lBot_bot (by (first | exact Int.le_trans (by with_reducible assumption) (by with_reducible assumption) | omega))]
theorem lad_bd {a : Nat × Nat} (h : a ∈ stps) {lo hi n z : Int} (e : Ends lo hi) (n0 : lo ≤ n) (n1 : n ≤ hi) (z0 : lo ≤ z) (z1 : z ≤ hi) :
    ((lSh a.1 a.2 (nOf lo hi) (n - lo).toNat (z - lo).toNat : Nat) : Int) ≤ ((lBot a.1 a.2 (nOf lo hi) : Nat) : Int) ∧ (1 : Int) ≤ ((lBot a.1 a.2 (nOf lo hi) : Nat) : Int) ∧ ((lBot a.1 a.2 (nOf lo hi) : Nat) : Int) < 2 ^ 34 := by
  have b := bot34 (stp_ok h) e.a e.b e.c
  rw [← lBot_bot e.b] at b
  refine ⟨?_, b⟩
  by_cases c : lo = hi
  · unfold lSh lBot
    rw [if_pos (by unfold nOf; omega), if_pos (by unfold nOf; omega)]
    exact Int.le_refl _
  · rw [lSh_law h n0 n1 z0 z1 (by omega), lBot_bot e.b]
    exact sh_le_bot (stp_ok h) n0 n1 (by omega) z0 z1
/-! the bottom and the tops of the rows -/
def wB (a b : Nat × Nat) (N : Nat) : Int := (mBot a.1 a.2 b.1 b.2 : Int) * (lBot b.1 b.2 N : Int)
def rowG (a b : Nat × Nat) (lo : Int) (N : Nat) (y z : Int) : Int := (rTop a.1 a.2 b.1 b.2 N (y - lo).toNat (z - lo).toNat : Nat)
theorem wB_bd {a b : Nat × Nat} (h : PairOk a b) {lo hi : Int} (e : Ends lo hi) : 1 ≤ wB a b (nOf lo hi) ∧ wB a b (nOf lo hi) < 2 ^ 47 := by
  have l := (lad_bd (n := lo) (z := lo) h.hb e (Int.le_refl _) e.b (Int.le_refl _) e.b).2
  have m := mBot_bd h
  unfold wB
  have q := mul_bd (a := (mBot a.1 a.2 b.1 b.2 : Int)) (b := (lBot b.1 b.2 (nOf lo hi) : Int)) (m := 13) (n := 34) (by (first | with_reducible exact Int.natCast_nonneg _ | omega)) (by omega) (by (first | with_reducible exact Int.natCast_nonneg _ | omega)) l.2
  have p := Int.mul_pos (show 0 < (mBot a.1 a.2 b.1 b.2 : Int) by omega) (show 0 < (lBot b.1 b.2 (nOf lo hi) : Int) by omega)
  exact ⟨by (first | exact Int.add_one_le_of_lt (a := 0) (by with_reducible assumption) | omega), q.2⟩
theorem toN_le {lo hi y : Int} (h : y ≤ hi) : (y - lo).toNat ≤ nOf lo hi := by unfold nOf; omega
theorem rowG_cast {a b : Nat × Nat} (h : PairOk a b) {lo hi y z : Int} (e : Ends lo hi) (y0 : lo ≤ y) (y1 : y ≤ hi) (z0 : lo ≤ z) (z1 : z ≤ hi) :
    rowG a b lo (nOf lo hi) y z = (mTop a.1 a.2 b.1 b.2 (nOf lo hi) (y - lo).toNat : Int) * ((lSh b.1 b.2 (nOf lo hi) (y - lo).toNat (z - lo).toNat : Nat) : Int) + (if z = y then ((mBot a.1 a.2 b.1 b.2 : Int) - (mTop a.1 a.2 b.1 b.2 (nOf lo hi) (y - lo).toNat : Int)) * ((lBot b.1 b.2 (nOf lo hi) : Nat) : Int) else 0) := by
  have hN : nOf lo hi ≤ 9 := by unfold nOf; have := e.a; have := e.c; omega
  have l := m_le h (y := (y - lo).toNat) hN (toN_le y1)
  have e3 : (z - lo).toNat = (y - lo).toNat ↔ z = y := ⟨fun q => by omega, fun c => by rw [c]⟩
  unfold rowG rTop
  rw [Int.natCast_add, Int.natCast_mul]
  congr 1
  by_cases c : z = y
  · rw [if_pos c, if_pos (e3.mpr c), Int.natCast_mul, Int.natCast_sub l]
  · rw [if_neg c, if_neg (fun q => c (e3.mp q))]; rfl
theorem rowG_bd {a b : Nat × Nat} (h : PairOk a b) {lo hi y z : Int} (e : Ends lo hi) (y0 : lo ≤ y) (y1 : y ≤ hi) (z0 : lo ≤ z) (z1 : z ≤ hi) : 0 ≤ rowG a b lo (nOf lo hi) y z ∧ rowG a b lo (nOf lo hi) y z < 2 ^ 48 := by
  refine ⟨by unfold rowG; (first | with_reducible exact Int.natCast_nonneg _ | omega), ?_⟩
  rw [rowG_cast h e y0 y1 z0 z1]
  have hN : nOf lo hi ≤ 9 := by unfold nOf; have := e.a; have := e.c; omega
  have l := m_le h (y := (y - lo).toNat) hN (toN_le y1)
  have lb := lad_bd h.hb e y0 y1 z0 z1
  have m := mBot_bd h
  generalize mTop a.1 a.2 b.1 b.2 (nOf lo hi) (y - lo).toNat = M at l ⊢
  generalize mBot a.1 a.2 b.1 b.2 = B at l m ⊢
  generalize ((lBot b.1 b.2 (nOf lo hi) : Nat) : Int) = L at lb ⊢
  have s0 : (0 : Int) ≤ ((lSh b.1 b.2 (nOf lo hi) (y - lo).toNat (z - lo).toNat : Nat) : Int) := Int.natCast_nonneg _
  generalize ((lSh b.1 b.2 (nOf lo hi) (y - lo).toNat (z - lo).toNat : Nat) : Int) = S at lb s0 ⊢
  have q1 := mul_bd (a := (M : Int)) (b := S) (m := 13) (n := 34) (by (first | with_reducible exact Int.natCast_nonneg _ | omega)) (by omega) s0 (by omega)
  have q2 := mul_bd (a := (B : Int) - M) (b := L) (m := 13) (n := 34) (by omega) (by omega) (by omega) (by omega)
  split <;> omega
/-! the cells of one row -/
def rowC (a b : Nat × Nat) (lo hi y : Int) : List (Int × Int) :=
  ((rangeI lo (mOf lo hi)).map fun z => (z, (mTop a.1 a.2 b.1 b.2 (nOf lo hi) (y - lo).toNat : Int) * ((lSh b.1 b.2 (nOf lo hi) (y - lo).toNat (z - lo).toNat : Nat) : Int))) ++ [(y, ((mBot a.1 a.2 b.1 b.2 : Int) - (mTop a.1 a.2 b.1 b.2 (nOf lo hi) (y - lo).toNat : Int)) * ((lBot b.1 b.2 (nOf lo hi) : Nat) : Int))]
theorem inR_of {lo hi y : Int} (h : InR lo (mOf lo hi) y) (le : lo ≤ hi) : lo ≤ y ∧ y ≤ hi := by
  unfold InR mOf at h; omega
theorem inR_to {lo hi y : Int} (h0 : lo ≤ y) (h1 : y ≤ hi) : InR lo (mOf lo hi) y := by
  unfold InR mOf; omega
theorem rowC_all {a b : Nat × Nat} (h : PairOk a b) {lo hi y : Int} (e : Ends lo hi) (y0 : lo ≤ y) (y1 : y ≤ hi) : ∀ c ∈ rowC a b lo hi y, InR lo (mOf lo hi) c.1 ∧ 0 ≤ c.2 ∧ c.2 ≤ 2 ^ 47 := by
  have hN : nOf lo hi ≤ 9 := by unfold nOf; have := e.a; have := e.c; omega
  have l := m_le h (y := (y - lo).toNat) hN (toN_le y1)
  have m := mBot_bd h
  intro c hc
  unfold rowC at hc
  rcases List.mem_append.mp hc with z | z
  · obtain ⟨x, hx, rfl⟩ := List.mem_map.mp z
    have hx := mem_rangeI.mp hx
    have hx2 : x ≤ hi := by unfold mOf at hx; omega
    have lb := lad_bd h.hb e y0 y1 hx.1 hx2
    have q1 := mul_bd (a := (mTop a.1 a.2 b.1 b.2 (nOf lo hi) (y - lo).toNat : Int)) (b := ((lSh b.1 b.2 (nOf lo hi) (y - lo).toNat (x - lo).toNat : Nat) : Int)) (m := 13) (n := 34) (by (first | with_reducible exact Int.natCast_nonneg _ | omega)) (by omega) (by (first | with_reducible exact Int.natCast_nonneg _ | omega)) (by omega)
    exact ⟨inR_to hx.1 hx2, q1.1, Int.le_of_lt q1.2⟩
  · obtain rfl := List.mem_singleton.mp z
    have lb := lad_bd h.hb e y0 y1 y0 y1
    have q2 := mul_bd (a := (mBot a.1 a.2 b.1 b.2 : Int) - (mTop a.1 a.2 b.1 b.2 (nOf lo hi) (y - lo).toNat : Int)) (b := ((lBot b.1 b.2 (nOf lo hi) : Nat) : Int)) (m := 13) (n := 34) (by omega) (by omega) (by (first | with_reducible exact Int.natCast_nonneg _ | omega)) (by omega)
    exact ⟨inR_to y0 y1, q2.1, Int.le_of_lt q2.2⟩
theorem rowC_cnt {a b : Nat × Nat} (h : PairOk a b) {lo hi y z : Int} (e : Ends lo hi) (y0 : lo ≤ y) (y1 : y ≤ hi) (hz : InR lo (mOf lo hi) z) : cntA (fun _ => 0) (rowC a b lo hi y) z = rowG a b lo (nOf lo hi) y z := by
  have z' := inR_of hz e.b
  rw [rowG_cast h e y0 y1 z'.1 z'.2, cnt_sum, Int.zero_add]
  unfold rowC
  rw [key_app, key_list _ _ _ (range_nodup _ _), if_pos (mem_rangeI.mpr hz), List.map_append, List.sum_append]
  by_cases c : z = y
  · subst c; simp [keyP]
  · have : ¬ y = z := fun q => c q.symm
    simp [keyP, c, this]
theorem rowC_len {a b : Nat × Nat} {lo hi y : Int} (e : Ends lo hi) : (rowC a b lo hi y).length ≤ 11 := by
  unfold rowC
  rw [List.length_append, List.length_map, rangeI_len]
  have := e.a; have := e.c
  simp [mOf]; omega
theorem rowC_safe {a b : Nat × Nat} (h : PairOk a b) {lo hi y : Int} (e : Ends lo hi) (y0 : lo ≤ y) (y1 : y ≤ hi) : Safe (fun _ => none) ((rowC a b lo hi y).map (lowE (wB a b (nOf lo hi)))) := by
  have l := rowC_len (a := a) (b := b) (y := y) e
  have w := wB_bd h e
  refine low_safe (b := 0) (v := 2 ^ 47) w.1 (Int.lt_trans w.2 (by decide)) (by decide) _ _ (fun _ => 0) 0 (fun _ => ⟨Int.le_refl _, Int.le_refl _⟩) (fun c hc => (rowC_all h e y0 y1 c hc).2) ?_ (by decide) (fun _ => .inl ⟨rfl, rfl⟩)
  have : ((rowC a b lo hi y).length : Int) * 2 ^ 47 ≤ 11 * 2 ^ 47 := Int.mul_le_mul_of_nonneg_right (by (first | exact Int.le_trans (Int.ofNat_le.mpr (by with_reducible assumption)) (by decide +kernel) | omega)) (by decide)
  omega
theorem rowC_table {a b : Nat × Nat} (h : PairOk a b) {lo hi y : Int} (e : Ends lo hi) (y0 : lo ≤ y) (y1 : y ≤ hi) {ks : List Int} (hr : ks.Pairwise (· < ·)) (hm : ∀ k, k ∈ ks ↔ ∃ u, totF ((rowC a b lo hi y).map (lowE (wB a b (nOf lo hi)))) k = some u ∧ u ≠ (0, 1)) :
    tabOf (totF ((rowC a b lo hi y).map (lowE (wB a b (nOf lo hi))))) ks = tabP lo (mOf lo hi) (wB a b (nOf lo hi)) (rowG a b lo (nOf lo hi) y) := by
  rw [tot_tableP (lo := lo) (m := mOf lo hi) (wB_bd h e).1 (fun c hc => (rowC_all h e y0 y1 c hc).2.1) (fun c hc => (rowC_all h e y0 y1 c hc).1) hr hm]
  exact tabP_congr fun z hz => rowC_cnt h e y0 y1 hz
/-! ### sums -/
theorem sum_range (h : Int → Int) (lo : Int) : ∀ N : Nat, ((rangeI lo (N + 1)).map h).sum = sumZ (fun y => h (lo + y)) N
  | 0 => by simp [rangeI, sumZ]
  | N + 1 => by
    rw [rangeI_succ, List.map_append, List.sum_append, sum_range h lo N]
    show _ = sumZ (fun y => h (lo + y)) N + h (lo + ((N + 1 : Nat) : Int))
    simp
theorem mOf_n {lo hi : Int} (le : lo ≤ hi) : mOf lo hi = nOf lo hi + 1 := by unfold mOf nOf; omega
theorem rowG_at {a b : Nat × Nat} {lo : Int} {N x : Nat} {z : Int} : rowG a b lo N (lo + (x : Int)) z = (rTop a.1 a.2 b.1 b.2 N x (z - lo).toNat : Nat) := by
  unfold rowG
  rw [show (lo + (x : Int) - lo).toNat = x by omega]
theorem rowG_at2 {a b : Nat × Nat} {lo : Int} {N x : Nat} {y : Int} : rowG a b lo N y (lo + (x : Int)) = (rTop a.1 a.2 b.1 b.2 N (y - lo).toNat x : Nat) := by
  unfold rowG
  rw [show (lo + (x : Int) - lo).toNat = x by omega]
/-! ### what is moved, in fractions -/
theorem div_low {a b c d : Int} (ha : 0 ≤ a) (hb : 1 ≤ b) (hc : 1 ≤ c) (hd : 1 ≤ d) : lowP ((lowP a b).1 * (lowP c d).2) ((lowP a b).2 * (lowP c d).1) = lowP (a * d) (b * c) := by
  have r1 := low_ratio ha hb
  have r2 := low_ratio (a := c) (b := d) (by (first | exact Int.le_trans (b := 1) (by decide +kernel) (by with_reducible assumption) | omega)) hd
  have n1 := low1_nonneg (b := b) ha
  have n2 := low1_pos (S := c) (P := d) hc hd
  have p1 := low2_pos (a := a) hb
  have p2 := low2_pos (a := c) hd
  have q1 := Int.mul_nonneg n1 (show 0 ≤ low2 c d by (first | exact Int.le_trans (b := 1) (by decide +kernel) (by with_reducible assumption) | omega))
  have q2 := Int.mul_pos (show 0 < low2 a b by (first | exact Int.lt_of_lt_of_le (b := 1) (by decide +kernel) (by with_reducible assumption) | omega)) (show 0 < low1 c d by (first | exact Int.lt_of_lt_of_le (b := 1) (by decide +kernel) (by with_reducible assumption) | omega))
  have q3 := Int.mul_nonneg ha (show 0 ≤ d by (first | exact Int.le_trans (b := 1) (by decide +kernel) (by with_reducible assumption) | omega))
  have q4 := Int.mul_pos (show 0 < b by (first | exact Int.lt_of_lt_of_le (b := 1) (by decide +kernel) (by with_reducible assumption) | omega)) (show 0 < c by (first | exact Int.lt_of_lt_of_le (b := 1) (by decide +kernel) (by with_reducible assumption) | omega))
  refine lowP_eq q1 (by show 1 ≤ low2 a b * low1 c d; (first | exact Int.add_one_le_of_lt (a := 0) (by with_reducible assumption) | omega)) q3 (by (first | exact Int.add_one_le_of_lt (a := 0) (by with_reducible assumption) | omega)) ?_
  show low1 a b * low2 c d * (b * c) = a * d * (low2 a b * low1 c d)
  generalize low1 a b = x at r1 ⊢
  generalize low2 a b = y at r1 ⊢
  generalize low1 c d = z at r2 ⊢
  generalize low2 c d = w at r2 ⊢
  grind
end Mine
namespace Mine
open PySem L2
def RwAt (H : Hp) (v : V) (es : List (Int × Int × Int)) : Prop := ∃ p ws, v = .ref p ∧ H p = some (.tup ws) ∧ Two (Ent H) ws es
theorem RwAt.ts {H H' : Hp} {v : V} {es : List (Int × Int × Int)} (t : TS H H') (h : RwAt H v es) : RwAt H' v es := let ⟨p, ws, a, b, c⟩ := h; ⟨p, ws, a, t _ _ b, tab_ts t c⟩
theorem rows_ts {H H' : Hp} {vs : List V} {rs : List (List (Int × Int × Int))} (t : TS H H') (h : Two (RwAt H) vs rs) : Two (RwAt H') vs rs := h.mono fun _ _ z => z.ts t
def spLowX : Sp := fun vs H Q _ => ∃ a b : Int, vs = [.int a, .int b] ∧ 0 ≤ a ∧ 1 ≤ b ∧ (∃ n, Bits n b ∧ n ≤ 8990) ∧ ∀ p, H p = none → Q (.ref p) (upd H p (.tup (lowI a b)))
def spMinusK (K : PySem.W.Frag) : Sp := fun vs H Q _ => ∃ (p q : Addr) (a b c d : Int), vs = [.ref p, .ref q] ∧ SqT K H p [.int a, .int b] ∧ TupAt H q c d ∧ B72 a ∧ B72 b ∧ B72 c ∧ B72 d ∧ 1 ≤ b ∧ 1 ≤ d ∧ c * b ≤ a * d ∧ ∀ r, H r = none → Q (.ref r) (upd H r (.tup (lowI (a * d - c * b) (b * d))))
def spLessF : Sp := fun vs H Q _ => ∃ (p q : Addr) (a b c d : Int), vs = [.ref p, .ref q] ∧ TupAt H p a b ∧ TupAt H q c d ∧ B72 a ∧ B72 b ∧ B72 c ∧ B72 d ∧ Q (.bl (decide (a * d < c * b))) H
def mvN (a b : Nat × Nat) (e : Bool) : Nat := if e = true then (a.2 * b.1 - a.1 * b.2) * (b.2 * (a.2 - a.1)) else (a.2 * b.1 - a.1 * b.2) * (a.2 * b.2 - a.1 * b.1)
theorem mv_top {a b : Nat × Nat} {N y : Nat} {e : Bool} (h : e = decide (y = 0 ∨ y = N)) : mvN a b e = mTop a.1 a.2 b.1 b.2 N y := by
  unfold mvN mTop
  rw [h]
  simp only [decide_eq_true_eq]
def FrAt (H : Hp) (r : Addr) (u : Int × Int) : Prop := TupAt H r u.1 u.2
def spMov : Sp := fun vs H Q _ => ∃ (p q : Addr) (a b : Nat × Nat) (e : Bool), vs = [.ref p, .ref q, .bl e] ∧ TupAt H p a.1 a.2 ∧ TupAt H q b.1 b.2 ∧ PairOk a b ∧ ∀ H' r, Same H H' → FrAt H' r (lowP (mvN a b e : Int) (mBot a.1 a.2 b.1 b.2 : Int)) → Q (.ref r) H'
def rowP (a b : Nat × Nat) (lo hi y : Int) : List (Int × Int × Int) := tabP lo (mOf lo hi) (wB a b (nOf lo hi)) (rowG a b lo (nOf lo hi) y)
def spRow : Sp := fun vs H Q _ => ∃ (p q : Addr) (a b : Nat × Nat) (lo hi y : Int), vs = [.ref p, .ref q, .int lo, .int hi, .int y] ∧ TupAt H p a.1 a.2 ∧ TupAt H q b.1 b.2 ∧ PairOk a b ∧ Ends lo hi ∧ lo ≤ y ∧ y ≤ hi ∧
  ∀ H' t ws, Same H H' → H' t = some (.tup ws) → Two (Ent H') ws (rowP a b lo hi y) → Q (.ref t) H'
def spMergedK : Sp := fun vs H Q _ => ∃ l us es lo, vs = [.ref l] ∧ H l = some (.lst us) ∧ Two (Ent H) us es ∧ es.length ≤ 900 ∧ (∀ e ∈ es, InR lo 20 e.1) ∧ Safe (fun _ => none) es ∧
  ∀ H' t ws ks, Same H H' → H' t = some (.tup ws) → ks.Pairwise (· < ·) → (∀ k, k ∈ ks ↔ ∃ u, totF es k = some u ∧ u ≠ (0, 1)) → Two (Ent H') ws (tabOf (totF es) ks) → Q (.ref t) H'
theorem fold_key : ∀ (es : List (Int × Int × Int)) (T : Int → Option (Int × Int)) (k : Int) (u : Int × Int), es.foldl stepT T k = some u → (∃ e ∈ es, e.1 = k) ∨ T k = some u
  | [], T, k, u, h => .inr h
  | e :: r, T, k, u, h => by
    rcases fold_key r (stepT T e) k u h with ⟨x, hx, q⟩ | z
    · exact .inl ⟨x, List.mem_cons_of_mem _ hx, q⟩
    · unfold stepT at z
      by_cases c : k = e.1
      · exact .inl ⟨e, List.mem_cons_self, c.symm⟩
      · rw [if_neg c] at z
        exact .inr z
theorem tot_key {es : List (Int × Int × Int)} {k : Int} {u : Int × Int} (h : totF es k = some u) : ∃ e ∈ es, e.1 = k := by
  rcases fold_key es (fun _ => none) k u h with z | z
  · exact z
  · cases z
/-! ### the law's own: steepnesses, put in order -/
def leP (a b : Nat × Nat) : Prop := a.1 * b.2 ≤ b.1 * a.2
instance (a b : Nat × Nat) : Decidable (leP a b) := inferInstanceAs (Decidable (_ ≤ _))
theorem low_nat {p q : Nat} : low1 (p : Int) (q : Int) = ((p / Nat.gcd p q : Nat) : Int) ∧ low2 (p : Int) (q : Int) = ((q / Nat.gcd p q : Nat) : Int) := by
  unfold low1 low2 gI
  simp
theorem low_stpB : ((List.range 10).all fun q => (List.range q).all fun p => Nat.ble q 1 || Nat.ble p 0 || stps.contains (p / Nat.gcd p q, q / Nat.gcd p q)) = true := by decide +kernel
theorem low_stp (q : Nat) (h10 : q < 10) (h2 : 2 ≤ q) (p : Nat) (hp : p < q) (h1 : 1 ≤ p) : (p / Nat.gcd p q, q / Nat.gcd p q) ∈ stps := by
  have e1 := List.all_eq_true.mp low_stpB q (List.mem_range.mpr h10)
  have e2 := List.all_eq_true.mp e1 p (List.mem_range.mpr hp)
  rcases Bool.or_eq_true_iff.mp e2 with z | z
  · rcases Bool.or_eq_true_iff.mp z with w | w
    · have := Nat.le_of_ble_eq_true w; omega
    · have := Nat.le_of_ble_eq_true w; omega
  · exact List.contains_iff_mem.mp z
theorem stp_of {x y : Int} (x0 : 1 ≤ x) (xy : x < y) (y9 : y ≤ 9) : ∃ a : Nat × Nat, a ∈ stps ∧ low1 x y = a.1 ∧ low2 x y = a.2 := by
  obtain ⟨p, rfl⟩ := Int.eq_ofNat_of_zero_le (show 0 ≤ x by (first | exact Int.le_trans (b := 1) (by decide +kernel) (by with_reducible assumption) | omega))
  obtain ⟨q, rfl⟩ := Int.eq_ofNat_of_zero_le (show 0 ≤ y by omega)
  exact ⟨_, low_stp q (by omega) (by omega) p (by omega) (by omega), low_nat.1, low_nat.2⟩
def spStp : Sp := fun vs H Q _ => ∃ (d l : Addr), vs = [.ref d, .int 1] ∧ Deal H d l ∧ ∀ (r : Addr) (a : Nat × Nat) (H' : Hp), TupAt H' r a.1 a.2 → a ∈ stps → Deal H' d l → Out d l H H' → Q (.ref r) H'
/-! tables that are drawn -/
structure Drawn (lo hi : Int) (T : Int) (f : Int → Int) : Prop where
  t1 : 1 ≤ T
  t90 : T ≤ 90
  f0 : ∀ y, InR lo (mOf lo hi) y → 0 ≤ f y ∧ f y ≤ 9
/-! one bottom for all tables that are drawn -/
/-! the same over and over -/
end Mine
namespace Mine
open PySem L2
theorem b72_of {x : Int} (h0 : 0 ≤ x) (h1 : x ≤ 100000) : B72 x := ⟨h0, by (first | exact Int.lt_of_le_of_lt (by with_reducible assumption) (by decide +kernel) | omega)⟩
structure MvF (pa qa pb qb : Int) : Prop where
  a1 : 1 ≤ pa
  a2 : pa < qa
  a3 : qa ≤ 9
  b1 : 1 ≤ pb
  b2 : pb < qb
  b3 : qb ≤ 9
  x1 : 1 ≤ qa * pb
  x2 : qa * pb ≤ 81
  y1 : 0 ≤ pa * qb
  y2 : pa * qb ≤ qa * pb
  z1 : 1 ≤ qa * qb
  z2 : qa * qb ≤ 81
  u1 : 0 ≤ pa * pb
  u2 : pa * pb ≤ qa * qb
theorem mv_facts {a b : Nat × Nat} (h : PairOk a b) : MvF a.1 a.2 b.1 b.2 := by
  have h1 := stp_nat a h.ha
  have h2 := stp_nat b h.hb
  have le := h.le
  have m1 : 1 * 1 ≤ a.2 * b.1 := Nat.mul_le_mul (by omega) (by omega)
  have m2 : a.2 * b.1 ≤ 9 * 9 := Nat.mul_le_mul (by omega) (by omega)
  have m3 : 1 * 1 ≤ a.2 * b.2 := Nat.mul_le_mul (by omega) (by omega)
  have m4 : a.2 * b.2 ≤ 9 * 9 := Nat.mul_le_mul (by omega) (by omega)
  have m5 : a.1 * b.1 ≤ a.2 * b.2 := Nat.mul_le_mul (by omega) (by omega)
  have le' : a.1 * b.2 ≤ a.2 * b.1 := by rw [Nat.mul_comm a.2]; exact le
  refine ⟨by omega, by omega, by omega, by omega, by omega, by omega, ?_, ?_, ?_, ?_, ?_, ?_, ?_, ?_⟩ <;> simp only [← Int.natCast_mul] <;> (first | exact (Int.ofNat_le (m := 1)).mpr (by with_reducible assumption) | omega)
theorem mvN_cast {a b : Nat × Nat} (h : PairOk a b) : ((mvN a b true : Nat) : Int) = (a.2 * b.1 - a.1 * b.2 : Int) * (b.2 * (a.2 - a.1)) ∧ ((mvN a b false : Nat) : Int) = (a.2 * b.1 - a.1 * b.2 : Int) * (a.2 * b.2 - a.1 * b.1) ∧
    ((mBot a.1 a.2 b.1 b.2 : Nat) : Int) = (b.1 * (a.2 - a.1) : Int) * (b.2 * (a.2 - a.1)) := by
  have f := mv_facts h
  have h1 := stp_nat a h.ha
  have l1 : a.1 * b.2 ≤ a.2 * b.1 := by have := f.y2; simp only [← Int.natCast_mul] at this; omega
  have l2 : a.1 * b.1 ≤ a.2 * b.2 := by have := f.u2; simp only [← Int.natCast_mul] at this; omega
  have l3 : a.1 ≤ a.2 := by omega
  unfold mvN mBot
  simp only [if_true, if_false, Bool.false_eq_true, Int.natCast_mul, Int.natCast_sub l1, Int.natCast_sub l2, Int.natCast_sub l3]
  exact ⟨trivial, trivial, trivial⟩
/-- at an end -/
theorem mv_end {a b : Nat × Nat} (h : PairOk a b) : lowP (((a.2 : Int) * b.1 - a.1 * b.2) * a.2) (((a.2 : Int) * b.1) * (a.2 - a.1)) = lowP (mvN a b true : Int) (mBot a.1 a.2 b.1 b.2 : Int) := by
  have f := mv_facts h
  have mb := mBot_bd h
  obtain ⟨e1, e2, e3⟩ := mvN_cast h
  refine lowP_eq (Int.mul_nonneg (by have := f.y2; (first | exact Int.sub_nonneg_of_le (by with_reducible assumption) | omega)) (by (first | with_reducible exact Int.natCast_nonneg _ | omega))) ?_ (by (first | with_reducible exact Int.natCast_nonneg _ | omega)) (by omega) ?_
  · have := Int.mul_pos (show (0 : Int) < a.2 * b.1 by have := f.x1; (first | exact Int.lt_of_lt_of_le (b := 1) (by decide +kernel) (by with_reducible assumption) | omega)) (show (0 : Int) < a.2 - a.1 by have := f.a2; omega)
    (first | exact Int.add_one_le_of_lt (a := 0) (by with_reducible assumption) | omega)
  · rw [e1, e3]
    generalize (a.1 : Int) = x
    generalize (a.2 : Int) = y
    generalize (b.1 : Int) = z
    generalize (b.2 : Int) = w
    grind
theorem mv_mid {a b : Nat × Nat} (h : PairOk a b) : lowP ((mvN a b true : Int) * (((a.2 : Int) * b.2 - a.1 * b.1) * a.2)) ((mBot a.1 a.2 b.1 b.2 : Int) * (((a.2 : Int) * b.2) * (a.2 - a.1))) = lowP (mvN a b false : Int) (mBot a.1 a.2 b.1 b.2 : Int) := by
  have f := mv_facts h
  have mb := mBot_bd h
  obtain ⟨e1, e2, e3⟩ := mvN_cast h
  have p1 := Int.mul_pos (show (0 : Int) < a.2 * b.2 by have := f.z1; (first | exact Int.lt_of_lt_of_le (b := 1) (by decide +kernel) (by with_reducible assumption) | omega)) (show (0 : Int) < a.2 - a.1 by have := f.a2; omega)
  have p2 := Int.mul_pos (show (0 : Int) < (mBot a.1 a.2 b.1 b.2 : Int) by omega) p1
  refine lowP_eq (Int.mul_nonneg (by (first | with_reducible exact Int.natCast_nonneg _ | omega)) (Int.mul_nonneg (by have := f.u2; (first | exact Int.sub_nonneg_of_le (by with_reducible assumption) | omega)) (by (first | with_reducible exact Int.natCast_nonneg _ | omega)))) (by (first | exact Int.add_one_le_of_lt (a := 0) (by with_reducible assumption) | omega)) (by (first | with_reducible exact Int.natCast_nonneg _ | omega)) (by omega) ?_
  rw [e1, e2, e3]
  generalize (a.1 : Int) = x
  generalize (a.2 : Int) = y
  generalize (b.1 : Int) = z
  generalize (b.2 : Int) = w
  grind
theorem low_pos' {a b : Int} (ha : 1 ≤ a) (hb : 1 ≤ b) : 1 ≤ (lowP a b).1 := low1_pos ha hb
theorem lowP_fr {S P : Int} (hS : 0 ≤ S) (h1 : S ≤ 2 ^ 170) (hP : 1 ≤ P) (h2 : P ≤ 2 ^ 170) : Fr72 (lowP S P) := low_fr hS (by (first | exact Int.lt_of_le_of_lt (by with_reducible assumption) (by decide +kernel) | omega)) hP (by (first | exact Int.lt_of_le_of_lt (by with_reducible assumption) (by decide +kernel) | omega))
theorem Two.get {α : Type} {R : V → α → Prop} : ∀ {vs : List V} {as : List α} {i : Nat} {a : α}, Two R vs as → as[i]? = some a → ∃ v, vs[i]? = some v ∧ R v a
  | [], [], _, _, _, h => by simp at h
  | v :: vs, a :: as, 0, w, ⟨h1, _⟩, h => by
    have e : a = w := by simpa using h
    subst e
    exact ⟨v, by simp, h1⟩
  | v :: vs, a :: as, i + 1, w, ⟨_, h2⟩, h => by
    obtain ⟨x, e, r⟩ := Two.get (i := i) h2 (by simpa using h)
    exact ⟨x, by simpa using e, r⟩
  | [], _ :: _, _, _, z, _ => z.elim
  | _ :: _, [], _, _, z, _ => z.elim
theorem tabP_at {lo : Int} {m : Nat} {w : Int} {F : Int → Int} {i : Nat} {e : Int × Int × Int} (h : (tabP lo m w F)[i]? = some e) : ∃ y, (liveF lo m F)[i]? = some y ∧ e = (y, lowP (F y) w) := by
  unfold tabP at h
  rw [List.getElem?_map] at h
  cases q : ((rangeI lo m).filter fun y => decide (0 < F y))[i]? with
  | none => rw [q] at h; cases h
  | some y =>
    rw [q] at h
    exact ⟨y, q, (Option.some.inj h).symm⟩
end Mine
namespace Mine
open PySem L2
theorem low_bits {f T : Int} (hf : 0 ≤ f) (hf2 : f < 2 ^ 160) (hT : 1 ≤ T) (hT2 : T < 2 ^ 160) : Bits 160 (lowP f T).1 ∧ Bits 160 (lowP f T).2 := by
  have a1 := low1_nonneg (b := T) hf
  have b1 := low2_pos (a := f) hT
  have c1 := low1_le hf hT
  have d1 := low2_le (a := f) hT
  exact ⟨Bits.of a1 (by show low1 f T < _; omega), Bits.of (by show 0 ≤ low2 f T; (first | exact Int.le_trans (b := 1) (by decide +kernel) (by with_reducible assumption) | omega)) (by show low2 f T < _; omega)⟩
/-! ### the law's tables -/
end Mine
namespace Mine
open PySem L2
/-! ### the law's own ladders: not brought down -/
def ladF (p q lo hi n y : Int) : Int × Int := if lo = hi then (1, 1) else (eN p q lo hi n y, eD p q n y)
structure LadOk (L S : Int) (u : Int × Int) : Prop where
  r : u.1 * L = S * u.2
  a : 0 ≤ u.1
  a2 : u.1 < 2 ^ 72
  b : 1 ≤ u.2
  b2 : u.2 < 2 ^ 72
theorem small_bd {p q : Int} (s : Steep p q) {n : Nat} (hn : n ≤ 21) : (0 ≤ shN p q n ∧ shN p q n < 2 ^ 72) ∧ (0 ≤ shD p q n ∧ shD p q n < 2 ^ 72) ∧ 0 ≤ tlN p q n ∧ tlN p q n < 2 ^ 72 := by
  obtain ⟨h1, h2, h3⟩ := s
  have e1 := pow9 (a := p) (by (first | exact Int.le_trans (b := 1) (by decide +kernel) (by with_reducible assumption) | omega)) (by omega) hn
  have e2 := pow9 (a := q) (by omega) (by (first | with_reducible assumption | omega)) hn
  have q1 := mul_bd (a := q - p) (m := 5) (by omega) (by omega) e1.1 e1.2
  have q2 := mul_bd (a := q + p) (m := 5) (by omega) (by omega) e2.1 e2.2
  have q3 := mul_bd (a := q) (m := 5) (by omega) (by (first | exact Int.lt_of_le_of_lt (by with_reducible assumption) (by decide +kernel) | omega)) e1.1 e1.2
  exact ⟨q1, q2, q3⟩
theorem lad_ok {a : Nat × Nat} (h : a ∈ stps) {lo hi n y : Int} (e : Ends lo hi) (n0 : lo ≤ n) (n1 : n ≤ hi) (y0 : lo ≤ y) (y1 : y ≤ hi) :
    LadOk ((lBot a.1 a.2 (nOf lo hi) : Nat) : Int) ((lSh a.1 a.2 (nOf lo hi) (n - lo).toNat (y - lo).toNat : Nat) : Int) (ladF a.1 a.2 lo hi n y) := by
  have s := stp_ok h
  obtain ⟨ea, eb, ec⟩ := id e
  unfold ladF
  by_cases c : lo = hi
  · rw [if_pos c]
    unfold lSh lBot
    rw [if_pos (by unfold nOf; omega), if_pos (by unfold nOf; omega)]
    exact ⟨rfl, by decide, by decide, by decide, by decide⟩
  · rw [if_neg c, lSh_law h n0 n1 y0 y1 (by omega), lBot_bot eb]
    have lf := law_frac s n0 n1 y0 y1
    have bd := small_bd s (n := (y - n).natAbs) (by omega)
    have dp := shD_pos s.p1 s.pq (y - n).natAbs
    refine ⟨?_, ?_, ?_, ?_, ?_⟩
    · unfold botI
      rw [if_neg c]
      exact lf.symm
    · show 0 ≤ eN _ _ _ _ _ _
      unfold eN
      split <;> (first | exact Int.mul_nonneg (Int.natCast_nonneg _) (Int.natCast_nonneg _) | omega)
    · show eN _ _ _ _ _ _ < _
      unfold eN
      split <;> omega
    · exact dp
    · exact bd.2.1.2
theorem DueU.step {w c : Int} {n : Nat} {u : Int × Int} (d : DueU w c n u) {o t v : Int} (o0 : 0 ≤ o) (t1 : 1 ≤ t) (hr : o * w = v * t) (bo : Bits 160 o) (bt : Bits 160 t) : DueU w (c + v) (n + 1) (u.1 * t + o * u.2, u.2 * t) := by
  obtain ⟨x, y⟩ := u
  obtain ⟨r, a, b, ba, bb⟩ := d
  simp only at r a b ba bb
  have q1 := Int.mul_nonneg a (show 0 ≤ t by (first | exact Int.le_trans (b := 1) (by decide +kernel) (by with_reducible assumption) | omega))
  have q2 := Int.mul_nonneg o0 (show 0 ≤ y by (first | exact Int.le_trans (b := 1) (by decide +kernel) (by with_reducible assumption) | omega))
  have q3 := Int.mul_pos (show 0 < y by (first | exact Int.lt_of_lt_of_le (b := 1) (by decide +kernel) (by with_reducible assumption) | omega)) (show 0 < t by (first | exact Int.lt_of_lt_of_le (b := 1) (by decide +kernel) (by with_reducible assumption) | omega))
  refine ⟨?_, by show 0 ≤ x * t + o * y; omega, by show 1 ≤ y * t; (first | exact Int.add_one_le_of_lt (a := 0) (by with_reducible assumption) | omega), ?_, ?_⟩
  · show (x * t + o * y) * w = (c + v) * (y * t)
    grind
  · have e1 := ba.mul bt
    have e2 := (bo.mul bb).mono (show 160 + (161 * n + 1) ≤ 161 * n + 1 + 160 by omega)
    exact (e1.add e2).mono (by omega)
  · exact (bb.mul bt).mono (by omega)
theorem DueU.more {w c : Int} {n m : Nat} {u : Int × Int} (d : DueU w c n u) (h : n ≤ m) : DueU w c m u := ⟨d.r, d.a, d.b, d.ba.mono (by omega), d.bb.mono (by omega)⟩
theorem DueU.zero {w : Int} : DueU w 0 0 (0, 1) := ⟨by simp, by decide, by decide, by unfold Bits; decide, by unfold Bits; decide⟩
/-- one row's part -/
theorem row_mul {L S W G : Int} {l : Int × Int} (hl : LadOk L S l) (hW : 1 ≤ W) (hW2 : W < 2 ^ 60) (hG : 0 ≤ G) (hG2 : G < 2 ^ 60) : 0 ≤ l.1 * (lowP G W).1 ∧ 1 ≤ l.2 * (lowP G W).2 ∧ l.1 * (lowP G W).1 * (L * W) = S * G * (l.2 * (lowP G W).2) ∧ Bits 160 (l.1 * (lowP G W).1) ∧ Bits 160 (l.2 * (lowP G W).2) := by
  obtain ⟨r, a, a2, b, b2⟩ := hl
  have r2 := low_ratio hG hW
  have a3 := low1_nonneg (b := W) hG
  have b3 := low2_pos (a := G) hW
  have c3 := low1_le hG hW
  have d3 := low2_le (a := G) hW
  show 0 ≤ l.1 * low1 G W ∧ 1 ≤ l.2 * low2 G W ∧ l.1 * low1 G W * (L * W) = S * G * (l.2 * low2 G W) ∧ Bits 160 (l.1 * low1 G W) ∧ Bits 160 (l.2 * low2 G W)
  have m1 := mul_bd (a := l.1) (b := low1 G W) (m := 72) (n := 60) a a2 a3 (by omega)
  have m2 := mul_bd (a := l.2) (b := low2 G W) (m := 72) (n := 60) (by (first | exact Int.le_trans (b := 1) (by decide +kernel) (by with_reducible assumption) | omega)) b2 (by (first | exact Int.le_trans (b := 1) (by decide +kernel) (by with_reducible assumption) | omega)) (by omega)
  have p := Int.mul_pos (show 0 < l.2 by (first | exact Int.lt_of_lt_of_le (b := 1) (by decide +kernel) (by with_reducible assumption) | omega)) (show 0 < low2 G W by (first | exact Int.lt_of_lt_of_le (b := 1) (by decide +kernel) (by with_reducible assumption) | omega))
  refine ⟨m1.1, by (first | exact Int.add_one_le_of_lt (a := 0) (by with_reducible assumption) | omega), ?_, (Bits.of m1.1 m1.2).mono (by decide), (Bits.of m2.1 m2.2).mono (by decide)⟩
  generalize low1 G W = x at r2 ⊢
  generalize low2 G W = y at r2 ⊢
  generalize l.1 = z at r ⊢
  generalize l.2 = w at r ⊢
  grind
def lSI (a : Nat × Nat) (lo hi n y : Int) : Int := ((lSh a.1 a.2 (nOf lo hi) (n - lo).toNat (y - lo).toNat : Nat) : Int)
def partS (a b : Nat × Nat) (lo hi n z : Int) (k : Nat) : Int := ((rangeI lo k).map fun y => lSI a lo hi n y * rowG a b lo (nOf lo hi) y z).sum
theorem partS_succ {a b : Nat × Nat} {lo hi n z : Int} {k : Nat} : partS a b lo hi n z (k + 1) = partS a b lo hi n z k + lSI a lo hi n (lo + k) * rowG a b lo (nOf lo hi) (lo + k) z := by
  unfold partS
  rw [rangeI_succ, List.map_append, List.sum_append]
  simp
theorem partS_all {a b : Nat × Nat} (ab : PairOk a b) {lo hi n z : Int} (en : Ends lo hi) (n0 : lo ≤ n) (n1 : n ≤ hi) (z0 : lo ≤ z) (z1 : z ≤ hi) : partS a b lo hi n z (mOf lo hi) = lSI b lo hi n z * ((lBot a.1 a.2 (nOf lo hi) : Int) * (mBot a.1 a.2 b.1 b.2 : Int)) := by
  obtain ⟨ea, eb, ec⟩ := id en
  have hN : nOf lo hi ≤ 9 := by unfold nOf; omega
  unfold partS
  rw [mOf_n eb, sum_range]
  unfold lSI
  rw [← chk_eq (pair_all ab hN).1 (x := (n - lo).toNat) (z := (z - lo).toNat) (by unfold nOf; omega) (by unfold nOf; omega)]
  refine sumZ_congr fun y hy => ?_
  rw [rowG_at, show (lo + (y : Int) - lo).toNat = y by omega]
/-- what comes is the other ladder's share -/
theorem comes_eq {a b : Nat × Nat} (ab : PairOk a b) {lo hi n z : Int} (en : Ends lo hi) (n0 : lo ≤ n) (n1 : n ≤ hi) (z0 : lo ≤ z) (z1 : z ≤ hi) {u : Int × Int} {k : Nat} (d : DueU ((lBot a.1 a.2 (nOf lo hi) : Int) * wB a b (nOf lo hi)) (partS a b lo hi n z (mOf lo hi)) k u) :
    u.1 * (ladF b.1 b.2 lo hi n z).2 = (ladF b.1 b.2 lo hi n z).1 * u.2 := by
  have lk := lad_ok ab.hb en n0 n1 z0 z1
  have la := (lad_bd (n := lo) (z := lo) ab.ha en (Int.le_refl _) en.b (Int.le_refl _) en.b).2.1
  have lb := (lad_bd (n := lo) (z := lo) ab.hb en (Int.le_refl _) en.b (Int.le_refl _) en.b).2.1
  have mb : (1 : Int) ≤ (mBot a.1 a.2 b.1 b.2 : Int) := by have := (mBot_bd ab).1; (first | exact (Int.ofNat_le (m := 1)).mpr (by with_reducible assumption) | omega)
  have r := d.r
  rw [partS_all ab en n0 n1 z0 z1] at r
  have r2 := lk.r
  unfold lSI wB at r
  generalize (mBot a.1 a.2 b.1 b.2 : Int) = B at r mb
  generalize ((lBot a.1 a.2 (nOf lo hi) : Nat) : Int) = LA at r la
  generalize ((lBot b.1 b.2 (nOf lo hi) : Nat) : Int) = LB at r r2 lb
  generalize ((lSh b.1 b.2 (nOf lo hi) (n - lo).toNat (z - lo).toNat : Nat) : Int) = S at r r2
  generalize (ladF b.1 b.2 lo hi n z).1 = x at r2 ⊢
  generalize (ladF b.1 b.2 lo hi n z).2 = y at r2 ⊢
  generalize u.1 = v at r ⊢
  generalize u.2 = w at r ⊢
  have hne : LA * B * LB ≠ 0 := by
    have q1 := Int.mul_pos (show 0 < LA by (first | exact Int.lt_of_lt_of_le (b := 1) (by decide +kernel) (by with_reducible assumption) | omega)) (show 0 < B by (first | exact Int.lt_of_lt_of_le (b := 1) (by decide +kernel) (by with_reducible assumption) | omega))
    have q2 := Int.mul_pos q1 (show 0 < LB by (first | exact Int.lt_of_lt_of_le (b := 1) (by decide +kernel) (by with_reducible assumption) | omega))
    (first | exact Int.ne_of_gt (by with_reducible assumption) | omega)
  refine Int.eq_of_mul_eq_mul_left hne ?_
  grind
end Mine
namespace Mine
open PySem L2
def spLLad : Sp := fun vs H Q _ => ∃ (st : Addr) (p q lo hi n : Int), vs = [.ref st, .int lo, .int hi, .int n] ∧ TupAt H st p q ∧ Steep p q ∧ Ends lo hi ∧ lo ≤ n ∧ n ≤ hi ∧ ∀ H' l us, Same H H' → H' l = some (.lst us) → Two (FrR H') us ((rangeI lo (mOf lo hi)).map (ladF p q lo hi n)) → Q (.ref l) H'
def spComes : Sp := fun vs H Q _ => ∃ (lf r ls : Addr) (us1 rs us2 : List V) (a b : Nat × Nat) (lo hi n : Int), vs = [.ref lf, .ref r, .ref ls, .int lo, .int hi] ∧ H lf = some (.lst us1) ∧ Two (FrR H) us1 ((rangeI lo (mOf lo hi)).map (ladF a.1 a.2 lo hi n)) ∧
  H r = some (.tup rs) ∧ Two (RwAt H) rs ((rangeI lo (mOf lo hi)).map (rowP a b lo hi)) ∧ H ls = some (.lst us2) ∧ Two (FrR H) us2 ((rangeI lo (mOf lo hi)).map (ladF b.1 b.2 lo hi n)) ∧ PairOk a b ∧ Ends lo hi ∧ lo ≤ n ∧ n ≤ hi ∧ ∀ H', Same H H' → Q (.bl true) H'
end Mine
namespace Mine
open PySem L2
/-! ### a row comes to 1 -/
def chkR (a : Nat × Nat) : Bool := allTo (fun N => allTo (fun y => Nat.beq (sumTo (fun z => lSh a.1 a.2 N y z) N) (lBot a.1 a.2 N)) N) 9
theorem all_r : stps.all chkR = true := by decide +kernel
theorem lad_sum {a : Nat × Nat} (h : a ∈ stps) {N y : Nat} (hN : N ≤ 9) (hy : y ≤ N) : sumZ (fun z => (lSh a.1 a.2 N y z : Int)) N = (lBot a.1 a.2 N : Int) := by
  have e := Nat.eq_of_beq_eq_true (allTo_at (allTo_at (List.all_eq_true.mp all_r a h) N hN) y hy)
  rw [← sumZ_cast, e]
theorem row_sum {a b : Nat × Nat} (ab : PairOk a b) {lo hi y : Int} (e : Ends lo hi) (y0 : lo ≤ y) (y1 : y ≤ hi) : ((rangeI lo (mOf lo hi)).map (rowG a b lo (nOf lo hi) y)).sum = wB a b (nOf lo hi) := by
  obtain ⟨ea, eb, ec⟩ := id e
  have eN := mOf_n (Int.le_trans y0 y1)
  have hN : nOf lo hi ≤ 9 := by unfold nOf; omega
  have hY : (y - lo).toNat ≤ nOf lo hi := toN_le y1
  have ml := m_le ab hN hY
  rw [eN, sum_range]
  have e1 : sumZ (fun z => rowG a b lo (nOf lo hi) y (lo + (z : Nat))) (nOf lo hi) = sumZ (fun z => (mTop a.1 a.2 b.1 b.2 (nOf lo hi) (y - lo).toNat : Int) * (lSh b.1 b.2 (nOf lo hi) (y - lo).toNat z : Int) + (if (y - lo).toNat = z then ((mBot a.1 a.2 b.1 b.2 : Int) - (mTop a.1 a.2 b.1 b.2 (nOf lo hi) (y - lo).toNat : Int)) * (lBot b.1 b.2 (nOf lo hi) : Int) else 0) * 1) (nOf lo hi) := by
    refine sumZ_congr fun z hz => ?_
    rw [rowG_at2]
    unfold rTop
    by_cases c : z = (y - lo).toNat
    · rw [if_pos c, if_pos c.symm, Int.natCast_add, Int.natCast_mul, Int.natCast_mul, Int.natCast_sub ml, Int.mul_one]
    · rw [if_neg c, if_neg fun q => c q.symm, Nat.add_zero, Int.natCast_mul, Int.zero_mul, Int.add_zero]
  rw [e1, sumZ_add, sumZ_mul, lad_sum ab.hb hN hY, sumZ_one _ (fun _ => 1) _ hY, Int.mul_one]
  unfold wB
  rw [← Int.add_mul]
  congr 1
  omega
structure OneT (lo hi : Int) (W : Int) (F : Int → Int) : Prop where
  en : Ends lo hi
  w1 : 1 ≤ W
  w2 : W < 2 ^ 150
  f0 : ∀ y, lo ≤ y → y ≤ hi → 0 ≤ F y ∧ F y < 2 ^ 150
  sm : ((rangeI lo (mOf lo hi)).map F).sum = W
theorem row_one {a b : Nat × Nat} (ab : PairOk a b) {lo hi y : Int} (e : Ends lo hi) (y0 : lo ≤ y) (y1 : y ≤ hi) : OneT lo hi (wB a b (nOf lo hi)) (rowG a b lo (nOf lo hi) y) := by
  have w := wB_bd ab e
  refine ⟨e, w.1, by omega, fun z z0 z1 => ?_, row_sum ab e y0 y1⟩
  have g := rowG_bd ab e y0 y1 z0 z1
  exact ⟨g.1, by omega⟩
theorem in_rng {lo : Int} : ∀ {m : Nat} {y : Int}, y ∈ rangeI lo m → InR lo m y := fun {m y} h => by
  have : y ∈ liveF lo m (fun _ => 1) := by
    unfold liveF
    rw [List.mem_filter]
    exact ⟨h, rfl⟩
  exact (mem_live.mp this).1
theorem live_sum {lo : Int} {m : Nat} {F : Int → Int} (h : ∀ y, InR lo m y → 0 ≤ F y) : ((liveF lo m F).map F).sum = ((rangeI lo m).map F).sum := by
  have := sum_live (f := F) (u := fun _ => 1) (rangeI lo m) fun y hy => h y (in_rng hy)
  simp only [Int.mul_one] at this
  exact this
/-- is a table of a row -/
def spIsT : Sp := fun vs H Q _ => ∃ (t : Addr) (ws : List V) (lo hi W : Int) (F : Int → Int), vs = [.ref t, .int lo, .int hi] ∧ H t = some (.tup ws) ∧ Two (Ent H) ws (tabP lo (mOf lo hi) W F) ∧ OneT lo hi W F ∧ ∀ H', Same H H' → Q (.bl true) H'
theorem live_again {lo : Int} {m : Nat} {F : Int → Int} : (rangeI lo m).filter (fun y => decide (y ∈ liveF lo m F)) = liveF lo m F := by
  unfold liveF
  refine List.filter_congr fun y hy => ?_
  by_cases c : 0 < F y
  · simp [c, hy]
  · simp [c]
theorem shaped_intsL (ns : List Int) : SeqAt.shaped (.list (ns.map PyData.int)) = true := by
  simp [SeqAt.shaped, PyData.canLay0, PyData.depth, lay_ints, depth_ints]
theorem in_ints (y : Int) : ∀ ns : List Int, inV (.int y) (ns.map V.int) = decide (y ∈ ns)
  | [] => by simp [inV]
  | n :: r => by
    have ih := in_ints y r
    unfold inV at ih ⊢
    rw [List.map_cons, List.any_cons, ih]
    simp only [eqV, List.mem_cons]
    by_cases c : n = y
    · simp [c]
    · have : ¬ y = n := fun z => c z.symm
      simp [c, this]
theorem flat_ints : ∀ ns : List Int, (ns.map V.int).all flatV = true
  | [] => rfl
  | _ :: r => by rw [List.map_cons, List.all_cons, flat_ints r]; rfl
/-- the class R of the exception, its parent D, the other classes cs -/
structure XFam1 (K : PySem.W.Frag) (R : Addr) (cs : List Addr) (D : Addr) : Prop where
  over : XOver K R D
  is : XIs K R
  ty : ∀ C ∈ cs, PySem.W.typeIn K (.ref C) = some (.type "type")
  cl : ∀ C ∈ cs, (PySem.W.clsIn K C).isSome = true
  nr : R ∉ cs
  nd : D ∉ cs
  dc : (PySem.W.clsIn K D).isSome = true
  dt : PySem.W.typeIn K (.ref D) = some (.type "type")
theorem XFam1.kit {K : PySem.W.Frag} {cs : List Addr} {R D C : Addr} (F : XFam1 K R cs D) (h : C ∈ cs) : PySem.W.kitOne K (.ref R) (.ref C) = some false := by
  have e : ¬ R = C := fun z => F.nr (z ▸ h)
  have ne : C ≠ D := fun z => F.nd (z ▸ h)
  have b : (Value.ref R == Value.ref C) = false := Bool.eq_false_iff.mpr fun q => e (Value.ref.inj (beq_iff_eq.mp q))
  obtain ⟨cd, hc⟩ := Option.isSome_iff_exists.mp (F.cl C h)
  unfold PySem.W.kitOne
  rw [b]
  unfold PySem.W.kitCls
  simp [hc, F.ty C h, F.over.subIn, Ne.symm e, ne, e]
theorem XFam1.self {K : PySem.W.Frag} {cs : List Addr} {R D : Addr} (F : XFam1 K R cs D) : PySem.W.kitOne K (.ref R) (.ref R) = some true := by
  unfold PySem.W.kitOne
  simp
theorem XFam1.up {K : PySem.W.Frag} {cs : List Addr} {R D : Addr} (F : XFam1 K R cs D) : PySem.W.kitOne K (.ref R) (.ref D) = some true := by
  unfold PySem.W.kitOne PySem.W.kitCls
  simp [F.dc, F.dt, F.over.subIn]
theorem XFam1.ve {K : PySem.W.Frag} {cs : List Addr} {R D : Addr} (F : XFam1 K R cs D) : PySem.W.kitOne K (.ref R) (.type "ValueError") = some true := by
  unfold PySem.W.kitOne PySem.W.kitCls
  simp [kitm_ve, F.over.subIn]
/-! rows, told or refused -/
def spRowsX (cR : Addr) : Sp := fun vs H Q E => ∃ (p q : Addr) (a b : Nat × Nat) (lo hi : Int), vs = [.ref p, .ref q, .int lo, .int hi] ∧ TupAt H p a.1 a.2 ∧ TupAt H q b.1 b.2 ∧ a ∈ stps ∧ b ∈ stps ∧ Ends lo hi ∧
  ((PairOk a b ∧ ∀ H' t rs, Same H H' → H' t = some (.tup rs) → Two (RwAt H') rs ((rangeI lo (mOf lo hi)).map (rowP a b lo hi)) → Q (.ref t) H') ∨ (b.1 * a.2 < a.1 * b.2 ∧ ∀ H', Same H H' → E (.ref cR) none H'))
def spTold : Sp := fun vs H Q _ => ∃ (p q : Addr) (a b : Nat × Nat) (lo hi : Int), vs = [.ref p, .ref q, .int lo, .int hi] ∧ TupAt H p a.1 a.2 ∧ TupAt H q b.1 b.2 ∧ a ∈ stps ∧ b ∈ stps ∧ Ends lo hi ∧
  ((PairOk a b ∧ ∀ H' t rs, Same H H' → H' t = some (.tup rs) → Two (RwAt H') rs ((rangeI lo (mOf lo hi)).map (rowP a b lo hi)) → Q (.ref t) H') ∨ (b.1 * a.2 < a.1 * b.2 ∧ ∀ H', Same H H' → Q (.str "refused") H'))
def spRef (cR : Addr) : Sp := fun vs H Q _ => ∃ x, vs = [.ref x] ∧ H x = some (XN x cR) ∧ ∀ H', Same H H' → Q (.bl true) H'
def spRight : Sp := fun vs H Q _ => ∃ (p q : Addr) (a b : Nat × Nat) (lo hi : Int), vs = [.ref p, .ref q, .int lo, .int hi] ∧ TupAt H p a.1 a.2 ∧ TupAt H q b.1 b.2 ∧ a ∈ stps ∧ b ∈ stps ∧ Ends lo hi ∧ ∀ H', Same H H' → Q (.bl true) H'
theorem len6 {σ : St} (h : σ.length = 6) : ∃ v0 v1 v2 v3 v4 v5, σ = [v0, v1, v2, v3, v4, v5] := by
  match σ, h with
  | [a, b, c, d, e, f], _ => exact ⟨a, b, c, d, e, f, rfl⟩
theorem pair_or {a b : Nat × Nat} (ha : a ∈ stps) (hb : b ∈ stps) : PairOk a b ∨ b.1 * a.2 < a.1 * b.2 := by
  by_cases c : a.1 * b.2 ≤ b.1 * a.2
  · exact .inl ⟨ha, hb, c⟩
  · exact .inr (by omega)
theorem boot_VE : bootBuiltins "ValueError" = some (.type "ValueError") := by decide +kernel
/-- what is asked: two steepnesses, two ends -/
def AskR (H : Hp) (v : V) : Prop := ∃ (t p q : Addr) (a b : Nat × Nat) (lo hi : Int), v = .ref t ∧ H t = some (.tup [.ref p, .ref q, .int lo, .int hi]) ∧ TupAt H p a.1 a.2 ∧ TupAt H q b.1 b.2 ∧ a ∈ stps ∧ b ∈ stps ∧ Ends lo hi
theorem AskR.ts {H H' : Hp} {v : V} (s : TS H H') (h : AskR H v) : AskR H' v :=
  let ⟨t, p, q, a, b, lo, hi, e, h1, h2, h3, r⟩ := h; ⟨t, p, q, a, b, lo, hi, e, s _ _ h1, s _ _ h2, s _ _ h3, r⟩
theorem deal_new2 {H : Hp} {d l r : Addr} (D : Deal H d l) (h : H r = none) : r ≠ d ∧ r ≠ l := by
  obtain ⟨sd, n, ls, z⟩ := D
  exact ⟨(ne_of_none z.dc h).symm, (ne_of_none z.lc h).symm⟩
end Mine
namespace Mine
open PySem L2
def top (i : Nat) : Stmt := PySem.Challenge.pw_pairedthrows_k34_rows_between_ladders.main.body.getD i (.Pass ⟨0, 0, 0, 0⟩)
abbrev sGcd : Stmt := top 10
abbrev sLow : Stmt := top 11
abbrev sAdd : Stmt := top 12
abbrev sTimes : Stmt := top 13
abbrev sMinus : Stmt := top 14
abbrev sDivd : Stmt := top 15
abbrev sPow : Stmt := top 16
abbrev sLess : Stmt := top 17
abbrev sMerg : Stmt := top 19
abbrev sShare : Stmt := top 21
abbrev sFar : Stmt := top 22
abbrev sTail : Stmt := top 23
abbrev sLad : Stmt := top 24
abbrev sMov : Stmt := top 27
abbrev sRow : Stmt := top 28
abbrev sRows : Stmt := top 29
abbrev sDeal : Stmt := top 31
abbrev sDraw : Stmt := top 32
abbrev sLLow : Stmt := top 33
abbrev sStp : Stmt := top 34
abbrev sLPow : Stmt := top 35
abbrev sLLad : Stmt := top 36
abbrev sIsT : Stmt := top 37
abbrev sRef : Stmt := top 38
abbrev sTold : Stmt := top 39
abbrev sComes : Stmt := top 40
abbrev sRight : Stmt := top 41
abbrev sLaw : Stmt := top 42
section
variable {P : Program} {w : World} {K : PySem.W.Frag} {mg : Str → Option Value} {base : Heap}
theorem scDraw : FnScope ["_law_deal_here", "_law_many", "_law_number", "_law_one", "_law_other"] ["_law_deal_here", "_law_many"] (defScope sDraw) := ⟨rfl, rfl, rfl, by decide +kernel, rfl, by decide +kernel, by decide +kernel⟩
theorem ok_draw {f : Addr} {fd : FuncData} (F : Fun K "_law_draw" "_law_draw" sDraw f fd) (ml : mg "len" = none) : FnOk P w K mg base CX0 1 f fd ["_law_deal_here", "_law_many"] spDraw := by
  refine F.ok scDraw (fun vs H Q E h => ?_) (fun cdv A outer s H vs Q E hr h => ?_)
  · obtain ⟨d, l, m, rfl, _⟩ := h
    rfl
  obtain ⟨d, l, m, rfl, ⟨sd, n, ls, D⟩, hm0, hm1, k⟩ := h
  have hu := hu_of hr
  refine ⟨_, pss_cons (ps_while PassesOwn.never (pw_and (pt_cmpR op_eq (pe_dget hu (pv 0) pe_str (fun _ _ => rfl)) pe_int (nomark _)) (pw_and1 (pt_cmpR op_gt (pe_callB call_len_seq (by rfl) ml PySem.boot_len (pa_cons (pe_dget hu (pv 0) pe_str (fun _ _ => rfl)) pa_nil)) pe_int (nomark _)))).pt
      (pss_one (ps_dput hu (pv 0) pe_str (pe_bm0 PySem.F.plainAttrs_list PySem.F.slot_list_pop PySem.F.type_list_pop mt_pop (pe_dget hu (pv 0) pe_str (fun _ _ => rfl))) rfl)))
    (pss_cons (ps_set (i := 2) scDraw.nd rfl (Or.inl rfl) (pe_dget hu (pv 0) pe_str (fun _ _ => rfl)))
    (pss_cons (ps_if (pt_cmpR op_gt (pv 2) pe_int (nomark _))
      (pss_cons (ps_dput hu (pv 0) pe_str (pe_op op_fdivB (pv 2) (pv 1)) rfl) (pss_one (ps_ret (pe_op op_mod (pv 2) (pv 1))))) pss_nil)
    (pss_cons (ps_set (i := 3) scDraw.nd rfl (Or.inl rfl) (pe_op op_mod (pe_op op_add (pe_op op_mul (pe_dget hu (pv 0) pe_str (fun _ _ => rfl)) pe_int) pe_int) pe_int))
    (pss_cons (ps_dput hu (pv 0) pe_str (pe_op op_mod (pe_op op_add (pe_op op_mul (pv 3) pe_int) pe_int) pe_int) rfl)
    (pss_cons (ps_set (i := 4) scDraw.nd rfl (Or.inl rfl) (pe_op op_mod (pe_op op_mul (pe_dget hu (pv 0) pe_str (fun _ _ => rfl)) (pe_dget hu (pv 0) pe_str (fun _ _ => rfl))) pe_int))
    (pss_one (ps_ret (pe_op op_mod (pe_op op_add (pe_op op_mul (pe_op op_mod (pe_op op_mul (pv 3) (pv 3)) pe_int) pe_int) (pv 4)) (pv 1))))))))), ?_⟩
  -- the while: numbers are taken until one is above 0, or none is left
  refine ⟨fun j σ H1 => ∃ n' ls', σ = [some (.ref d), some (.int m), none, none, none] ∧ DealAt H1 d l sd n' ls' ∧ j = ls'.length ∧ Out d l H H1, ⟨_, n, ls, rfl, D, rfl, Out.refl H⟩, ?_⟩
  rintro j σ H1 ⟨n', ls', rfl, D1, rfl, o1⟩
  refine ⟨_, rfl, d, _, rfl, D1.gn, rfl, _, rfl, ?_⟩
  refine ite2 (fun c => ?a) (fun c => iteF ?b)
  case' a => refine ⟨_, rfl, d, _, rfl, D1.gl, l, _, rfl, .inl (SqL.of D1.lc), _, _, rfl, rfl, _, rfl, ?_⟩
  case' a => refine ite2 (fun c2 => ?loop) (fun c2 => ?b2)
  case loop =>
      -- one is popped
      have hl : 0 < ls'.length := by
        have := of_decide_eq_true c2
        simpa using this
      obtain ⟨z, hz⟩ : ∃ z, ls'[ls'.length - 1]? = some z := ⟨ls'[ls'.length - 1], by simp⟩
      have hz2 : (ls'.map V.int)[(ls'.map V.int).length - 1]? = some (.int z) := by rw [List.length_map, List.getElem?_map, hz]; rfl
      have z0 : 0 ≤ z := D1.l0 z (List.mem_of_getElem? hz)
      have D2 : DealAt (upd H1 l (.lst (ls'.dropLast.map V.int))) d l sd n' ls'.dropLast := D1.left fun x hx => D1.l0 x (List.dropLast_subset _ hx)
      refine ⟨fun σ' H' => σ' = [some (.ref d), some (.int m), none, none, none] ∧ DealAt H' d l sd z ls'.dropLast ∧ Out d l H H', fun σ' H' q => ⟨_, by rw [List.length_dropLast]; omega, z, ls'.dropLast, q.1, q.2.1, rfl, q.2.2⟩, ?_⟩
      refine ⟨_, rfl, d, _, rfl, D1.gl, .inl ⟨rfl, _, SqL.of D1.lc⟩, l, _, _, rfl, rfl, D1.lc, hz2, ?_⟩
      have e : ∀ (o : List V), (ls'.map V.int).dropLast = o → upd H1 l (.lst (ls'.map V.int).dropLast) = upd H1 l (.lst o) := fun o e => by rw [e]
      rw [e _ List.map_dropLast.symm]
      refine ⟨_, rfl, d, _, rfl, D2.pn z, rfl, D2.number z0, o1.trans (Out.upd_l.trans Out.upd_d)⟩
  all_goals
    refine ⟨_, rfl, d, _, rfl, D1.gn, ?_⟩
    refine ⟨_, rfl, _, _, rfl, rfl, _, rfl, ?_⟩
    refine ite2 (fun c3 => ?_) (fun c3 => ?_)
    · have hp : 0 < n' := of_decide_eq_true c3
      refine ⟨_, rfl, _, rfl, _, _, rfl, rfl, ⟨hm0, by (first | exact Int.lt_of_lt_of_le (by with_reducible assumption) (by decide +kernel) | omega)⟩, _, rfl, d, _, rfl, D1.pn (n' / m), ?_⟩
      refine ⟨_, rfl, _, rfl, _, _, rfl, rfl, hm0, ?_⟩
      exact k _ _ (Int.emod_nonneg _ (by (first | exact Int.ne_of_gt (by with_reducible assumption) | omega))) (Int.emod_lt_of_pos _ hm0) ⟨_, _, _, D1.number (Int.ediv_nonneg (by (first | exact Int.le_of_lt (by with_reducible assumption) | omega)) (by (first | exact Int.le_of_lt (by with_reducible assumption) | omega)))⟩ (o1.trans Out.upd_d)
    · -- a number by the seed
      have q1 : (0 : Int) < 2147483647 := by decide
      refine ⟨_, rfl, d, _, rfl, D1.gs, _, _, rfl, rfl, .inr ⟨by decide, by decide⟩, _, _, rfl, rfl, _, _, rfl, rfl, q1, ?_⟩
      have q2 : (0 : Int) < 2147483587 := by decide
      refine ⟨_, rfl, _, _, rfl, rfl, .inr ⟨by decide, by decide⟩, _, _, rfl, rfl, _, _, rfl, rfl, q2, _, rfl, d, _, rfl, D1.ps _, ?_⟩
      have D2 := D1.seed (v := ((sd * 48271 + 5003) % 2147483647 * 39373 + 60013) % 2147483587) (Int.emod_nonneg _ (by decide)) (by exact Int.lt_trans (Int.emod_lt_of_pos _ (by decide)) (by decide))
      have q3 : (0 : Int) < 2147483549 := by decide
      have q4 : (0 : Int) < 2147483563 := by decide
      refine ⟨_, rfl, d, _, rfl, D2.gs, _, rfl, d, _, rfl, D2.gs, _, _, rfl, rfl, .inr ⟨by exact Int.lt_of_lt_of_le (b := 0) (by decide) (Int.emod_nonneg _ (by decide)), by exact Int.lt_trans (Int.emod_lt_of_pos _ (by decide)) (by decide)⟩, _, _, rfl, rfl, q3, ?_⟩
      refine ⟨_, rfl, _, rfl, _, _, rfl, rfl, .inr ⟨by exact Int.lt_of_lt_of_le (b := 0) (by decide) (Int.emod_nonneg _ (by decide)), by exact Int.lt_trans (Int.emod_lt_of_pos _ (by decide)) (by decide)⟩, _, _, rfl, rfl, q4, _, _, rfl, rfl, .inr ⟨by decide, by decide⟩, _, rfl, _, _, rfl, rfl, _, rfl, _, _, rfl, rfl, hm0, ?_⟩
      exact k _ _ (Int.emod_nonneg _ (by (first | exact Int.ne_of_gt (by with_reducible assumption) | omega))) (Int.emod_lt_of_pos _ hm0) ⟨_, _, _, D2⟩ (o1.trans Out.upd_d)
end
end Mine
namespace Mine
open PySem L2
theorem merge_deal (x n : Int) (l : Addr) : mergeK [] (dealK x n l) = dealK x n l := by
  unfold mergeK dealK
  simp only [List.foldl_cons, List.foldl_nil]
  have e1 : putK ([] : List (Key × V)) (Sum.inr ("seed" : Str)) (V.int x) = [(Sum.inr ("seed" : Str), V.int x)] := rfl
  have e2 : putK [(Sum.inr ("seed" : Str), V.int x)] (Sum.inr ("number" : Str) : Key) (V.int n) = [(Sum.inr ("seed" : Str), V.int x), (Sum.inr ("number" : Str), V.int n)] := putK_new _ (by rw [valV_neg ksn, valV_nil])
  have e3 : putK [(Sum.inr ("seed" : Str), V.int x), (Sum.inr ("number" : Str), V.int n)] (Sum.inr ("left" : Str) : Key) (V.ref l) = [(Sum.inr ("seed" : Str), V.int x), (Sum.inr ("number" : Str), V.int n)] ++ [(Sum.inr ("left" : Str), V.ref l)] := putK_new _ (by rw [valV_neg ksl, valV_neg knl, valV_nil])
  rw [e1, e2, e3]
  rfl
theorem ndCell : (["_law_cell"] : List Str).Nodup := by decide +kernel
theorem cut_ints (ns : List Int) (lo hi : Option Int) : ∃ ms : List Int, cutV (ns.map V.int) lo hi = ms.map V.int ∧ ms.length ≤ ns.length := by
  refine ⟨(ns.drop (HT.sIx ns.length 0 lo)).take (HT.sIx ns.length ns.length hi - HT.sIx ns.length 0 lo), ?_, ?_⟩
  · unfold cutV
    rw [List.length_map, List.map_take, List.map_drop]
  · rw [List.length_take, List.length_drop]; omega
section
variable {P : Program} {w : World} {K : PySem.W.Frag} {mg : Str → Option Value} {base : Heap}
theorem scDeal : FnScope ["_law_script", "_law_base", "_law_cells", "_law_number", "_law_cell"] ["_law_script", "_law_base"] (defScope sDeal) := ⟨rfl, rfl, rfl, by decide +kernel, rfl, by decide +kernel, by decide +kernel⟩
theorem ok_deal {f : Addr} {fd : FuncData} (F : Fun K "_law_deal" "_law_deal" sDeal f fd) (mm : mg "max" = none) (mr : mg "reversed" = none) (ml : mg "list" = none) : FnOk P w K mg base CX0 1 f fd ["_law_script", "_law_base"] (spDeal K) := by
  refine F.ok scDeal (fun vs H Q E h => ?_) (fun cdv A outer s H vs Q E hr h => ?_)
  · obtain ⟨a, ns, b, rfl, _⟩ := h
    rfl
  obtain ⟨a, ns, b, rfl, hS, hlen, hb0, hb1, k⟩ := h
  refine ⟨_, pss_cons (ps_setC ["_law_cell"] [none] (i := 2) scDeal.nd rfl (Or.inl rfl) (pi_list (pe_slice sl_list (pv 0) (po_some (pv 1)) (po_some pe_int)))
      (fun _ _ _ _ => pg_name (i := 0) ndCell rfl (Or.inl rfl)) (fun _ _ _ _ => pf_nil) (fun _ _ _ _ => pe_callB (call_max2 rfl) (by rfl) mm PyProof.Rows.boot_max (pa_cons (pv 0) (pa_cons (pe_op op_sub pe_int (pv 0)) pa_nil))))
    (pss_cons (ps_set (i := 3) scDeal.nd rfl (Or.inl rfl) (pe_op op_add pe_int (pe_op op_mul pe_int (pv 1))))
    (pss_cons (ps_for PassesOwn.never rfl (pi_list (pv 2)) (pg_name (i := 4) scDeal.nd rfl (Or.inl rfl))
      (pss_one (ps_set (i := 3) scDeal.nd rfl (Or.inl rfl) (pe_op op_mod (pe_op op_add (pe_op op_add (pe_op op_mul (pv 3) pe_int) (pe_op op_mod (pv 4) pe_int)) pe_int) pe_int))))
    (pss_one (ps_ret (pe_disp (pps_cons pe_str (pv 3) (pps_cons pe_str pe_int (pps_cons pe_str (pe_listrev (pe_comp ["_law_cell"] [none] (pi_list (pv 2))
      (fun _ _ _ _ => pg_name (i := 0) ndCell rfl (Or.inl rfl)) (fun _ _ _ _ => pf_one (pt_cmpR op_ge (pv 0) (pe_op op_pow pe_int pe_int) (nomark _))) (fun _ _ _ _ => pv 0)) (by rfl) ml (by rfl) mr) pps_nil))) rfl rfl (by decide) (by decide)))))), ?_⟩
  -- cells: the greatness of each
  refine ⟨_, rfl, _, rfl, _, rfl, _, rfl, a, _, rfl, hS, fun p1 np1 => ?_⟩
  obtain ⟨ms, em, hms⟩ := cut_ints ns (some b) (some 63)
  have g1 : Same H (upd H p1 (.lst (cutV (ns.map V.int) (some b) (some 63)))) := same_new np1 _
  have hp1 : SqL K (upd H p1 (.lst (cutV (ns.map V.int) (some b) (some 63)))) p1 (ms.map V.int) := by rw [em]; exact SqL.of upd_same
  generalize upd H p1 (.lst (cutV (ns.map V.int) (some b) (some 63))) = H1 at g1 hp1 ⊢
  refine ⟨p1, rfl, ⟨_, hp1⟩, comp_list (xs := ms.map V.int) (fun i ys σ H2 => H2 = H1 ∧ (∃ v, σ = [v]) ∧ ∃ cs : List Int, ys = cs.map V.int ∧ cs.length = i ∧ ∀ x ∈ cs, 0 ≤ x)
    (by rw [List.length_map]; exact small1000 (by omega)) ⟨rfl, ⟨_, rfl⟩, [], rfl, rfl, fun _ z => nomatch z⟩ (fun i ys σ H2 ⟨_, _, cs, e1, e2, _⟩ => by rw [e1, List.length_map]; omega) (fun i ys σ H2 _ ⟨e, _⟩ => by rw [e]; exact hp1) ?_ ?_⟩
  · rintro i x ys σ H2 hx ⟨rfl, ⟨v, rfl⟩, cs, rfl, rfl, h0⟩
    obtain ⟨z, rfl, _⟩ := ints_at hx
    refine ⟨_, rfl, _, rfl, _, _, rfl, rfl, _, _, rfl, rfl, ⟨_, rfl⟩, cs ++ [if 0 - z > z then 0 - z else z], by rw [List.map_append]; rfl, by rw [List.length_append]; rfl, fun x hx => ?_⟩
    rcases List.mem_append.mp hx with q | q
    · exact h0 x q
    · have e : x = if 0 - z > z then 0 - z else z := by simpa using q
      rw [e]; split <;> omega
  rintro ys σ H2 ⟨rfl, _, cs, rfl, hcs, h0⟩ p2 np2
  have hm63 : cs.length ≤ 63 := by rw [List.length_map] at hcs; omega
  have g2 : Same H2 (upd H2 p2 (.lst (cs.map V.int))) := same_new np2 _
  have hp2 : SqL K (upd H2 p2 (.lst (cs.map V.int))) p2 (cs.map V.int) := SqL.of upd_same
  generalize upd H2 p2 (.lst (cs.map V.int)) = H3 at g2 hp2 ⊢
  refine ⟨_, rfl, _, _, rfl, rfl, .inl ⟨by decide, by decide⟩, _, _, rfl, rfl, ?_⟩
  -- for cell in cells
  refine ⟨_, rfl, p2, rfl, ⟨_, hp2⟩, for_list (K := K) (a := p2) (xs := cs.map V.int) (fun i σ H4 => H4 = H3 ∧ ∃ (x : Int) (v : Option V), σ = [some (.ref a), some (.int b), some (.ref p2), some (.int x), v] ∧ 0 ≤ x ∧ x < 2147483647)
    ⟨rfl, 6271 + 11 * b, none, rfl, by omega, by omega⟩ (fun i σ H4 _ ⟨e, _⟩ => by rw [e]; exact hp2) ?_ ?_⟩
  · rintro i y σ H4 hi ⟨rfl, x, v, rfl, x0, x1⟩
    obtain ⟨z, rfl, _⟩ := ints_at hi
    have q1 : (0 : Int) < 2147483579 := by decide
    have q2 : (0 : Int) < 2147483647 := by decide
    refine ⟨_, rfl, _, _, rfl, rfl, .inr ⟨by decide, by decide⟩, _, rfl, _, _, rfl, rfl, q1, _, _, rfl, rfl, _, _, rfl, rfl, _, _, rfl, rfl, q2, rfl, _, _, rfl, ?_, ?_⟩
    · exact Int.emod_nonneg _ (by decide)
    · exact Int.emod_lt_of_pos _ q2
  rintro σ H4 ⟨rfl, x, v, rfl, x0, x1⟩
  -- the dict
  intro d nd
  have g4 : Same H4 (upd H4 d (.dK [])) := same_new nd _
  have hd4 : upd H4 d (.dK []) d = some (.dK []) := upd_same
  have hp4 := g4.seq hp2
  refine ⟨_, rfl, _, rfl, p2, rfl, ⟨_, hp4⟩, ?_⟩
  generalize upd H4 d (.dK []) = H5 at g4 hd4 hp4 ⊢
  refine comp_list (xs := cs.map V.int) (fun i ys σ H6 => H6 = H5 ∧ (∃ v, σ = [v]) ∧ ∃ ls : List Int, ys = ls.map V.int ∧ ls.length ≤ i ∧ ∀ x ∈ ls, 0 ≤ x)
    (by rw [List.length_map]; exact small1000 (by (first | exact Nat.le_trans (by with_reducible assumption) (by decide +kernel) | omega))) ⟨rfl, ⟨_, rfl⟩, [], rfl, Nat.le_refl _, fun _ z => nomatch z⟩ (fun i ys σ H2 ⟨_, _, cs, e1, e2, _⟩ => by rw [e1, List.length_map]; (first | with_reducible assumption | omega)) (fun i ys σ H2 _ ⟨e, _⟩ => by rw [e]; exact hp4) ?_ ?_
  · rintro i y ys σ H6 hy ⟨rfl, ⟨v', rfl⟩, ls, rfl, hl, l0⟩
    obtain ⟨z, rfl, hz⟩ := ints_at hy
    have z0 : 0 ≤ z := h0 z (List.mem_of_getElem? hz)
    refine ⟨_, rfl, _, _, rfl, rfl, ⟨by decide, by decide, by decide⟩, _, _, rfl, rfl, _, rfl, ?_⟩
    refine ite2 (fun c => ?_) (fun c => ?_)
    · refine ⟨_, rfl, rfl, ⟨_, rfl⟩, ls ++ [z], by rw [List.map_append]; rfl, by rw [List.length_append]; show ls.length + 1 ≤ i + 1; omega, fun x hx => ?_⟩
      rcases List.mem_append.mp hx with q | q
      · exact l0 x q
      · have e : x = z := by simpa using q
        rw [e]; exact z0
    · exact ⟨rfl, ⟨_, rfl⟩, ls, rfl, Nat.le_succ_of_le hl, l0⟩
  rintro ys σ H6 ⟨rfl, _, ls, rfl, hl, l0⟩ p3 np3
  have g5 : Same H6 (upd H6 p3 (.lst (ls.map V.int))) := same_new np3 _
  refine ⟨p3, _, rfl, SqL.of upd_same, fun l nl => ?_⟩
  generalize upd H6 p3 (.lst (ls.map V.int)) = H7 at g5 nl ⊢
  have g6 : Same H7 (upd H7 l (.lst (ls.map V.int).reverse)) := same_new nl _
  have hd7 : H7 d = some (.dK []) := g5 _ _ hd4
  refine ⟨g6 _ _ hd7, dealK x 0 l, rfl, by show 3 ≤ 15; decide, ?_⟩
  have em : mergeK [] (dealK x 0 l) = dealK x 0 l := merge_deal _ _ _
  have neld : l ≠ d := fun z => by rw [z] at nl; rw [nl] at hd7; cases hd7
  refine k d l _ ?_ ?_ ⟨x, 0, ls.reverse, ⟨by rw [em]; exact upd_same, by rw [upd_ne neld, upd_same, List.map_reverse], x0, x1, Int.le_refl 0, fun y hy => l0 y (by simpa using hy)⟩⟩ ?_
  · exact (g1.trans g2).free nd
  · exact (g1.trans (g2.trans (g4.trans g5))).free nl
  · intro c o e
    rw [upd_ne (ne_of_none e ((g1.trans g2).free nd))]
    exact (g1.trans (g2.trans (g4.trans (g5.trans g6)))) c o e
theorem in64 {x : Nat} (h : x ≤ 100000) : -(2 ^ 64) < (x : Int) ∧ (x : Int) < 2 ^ 64 := ⟨by omega, by omega⟩
theorem abs_nn {x : Int} (h : 0 ≤ x) : x.natAbs = x.toNat := by
  obtain ⟨k, rfl⟩ := Int.eq_ofNat_of_zero_le h
  rfl
theorem abs_sub {a b : Int} (h : a ≤ b) : (a - b).natAbs = (b - a).toNat := by
  rw [← Int.natAbs_neg, Int.neg_sub]
  exact abs_nn (Int.sub_nonneg_of_le h)
theorem abs_int (x : Int) : (if x < 0 then -x else x) = (x.natAbs : Int) := by
  cases x with
  | ofNat n => exact if_neg (Int.not_lt.mpr (Int.natCast_nonneg n))
  | negSucc n => exact if_pos (Int.negSucc_lt_zero n)
theorem abs_if (x : Int) : (if x < 0 then -x else x).toNat = x.natAbs := by rw [abs_int]; rfl
theorem m10_of {lo hi : Int} (e : Ends lo hi) : mOf lo hi ≤ 10 := by
  obtain ⟨ea, eb, ec⟩ := e
  unfold mOf
  omega
theorem mOf_le {lo hi : Int} {i : Nat} (h : i < mOf lo hi) : lo + (i : Int) ≤ hi := by
  unfold mOf at h
  omega
theorem rng_of {lo hi : Int} (e : Ends lo hi) : -(2 ^ 62) ≤ lo ∧ lo < 2 ^ 62 ∧ -(2 ^ 62) ≤ hi + 1 ∧ hi + 1 < 2 ^ 62 := by
  obtain ⟨ea, eb, ec⟩ := e
  exact ⟨by omega, by omega, by omega, by omega⟩
end
end Mine
namespace Mine
open PySem L2
section
variable {P : Program} {w : World} {K : PySem.W.Frag} {mg : Str → Option Value} {base : Heap}
theorem scGcd : FnScope ["one", "other", "remainder"] ["one", "other"] (defScope sGcd) := ⟨rfl, rfl, rfl, by decide +kernel, rfl, by decide +kernel, by decide +kernel⟩
theorem ok_Gcd {f : Addr} {fd : FuncData} (F : Fun K "common_divisor" "common_divisor" sGcd f fd)
     :
    FnOk P w K mg base CX0 1 f fd ["one", "other"] spGcd := by
  refine F.ok scGcd (fun vs H Q E h => ?_) (fun cdv A outer s H vs Q E hr h => ?_)
  · obtain ⟨a, b, rfl, _⟩ := h
    rfl
  obtain ⟨a, b, rfl, ha, hb, k⟩ := h
  have hu := hu_of hr
  refine ⟨_, (pss_cons (ps_while PassesOwn.never (pt_cmpR op_ne (pv 1) pe_int (nomark _))
    (pss_cons (ps_set (i := 2) scGcd.nd rfl (Or.inl rfl) (pe_op op_mod (pv 0) (pv 1)))
    (pss_cons (ps_set (i := 0) scGcd.nd rfl (Or.inl rfl) (pv 1))
    (pss_one (ps_set (i := 1) scGcd.nd rfl (Or.inl rfl) (pv 2))))))
    (pss_one (ps_ret (pv 0)))), ?_⟩
  refine ⟨fun j σ H1 => H1 = H ∧ ∃ (x y : Int) (r : Option V), σ = [some (.int x), some (.int y), r] ∧ 0 ≤ x ∧ 0 ≤ y ∧ gI x y = gI a b ∧ j = y.toNat, ⟨_, rfl, a, b, none, rfl, ha, hb, rfl, rfl⟩, ?_⟩
  rintro j σ H1 ⟨rfl, x, y, r, rfl, hx, hy, hg, rfl⟩
  refine ⟨_, rfl, rfl, _, rfl, ?_⟩
  by_cases y0 : y = 0
  · subst y0
    refine iteNS rfl ⟨_, rfl, ?_⟩
    rw [← hg, gcd_end hx] at k
    exact k
  · have yp : 0 < y := by omega
    have e : (!decide (V.int y = V.int 0)) = true := by simp [y0]
    rw [e]
    refine ⟨fun σ' H' => H' = H1 ∧ ∃ r', σ' = [some (.int y), some (.int (x % y)), r'], fun σ' H' ⟨e1, r', e2⟩ => ⟨(x % y).toNat, ?_, e1, y, x % y, r', e2, hy, Int.emod_nonneg _ y0, (step_gcd hx yp).trans hg, rfl⟩, ?_⟩
    · have := Int.emod_lt_of_pos x yp
      have := Int.emod_nonneg x y0
      omega
    · exact ⟨_, rfl, _, rfl, _, _, rfl, rfl, yp, _, rfl, _, rfl, rfl, _, rfl⟩
theorem scLow : FnScope ["top", "bottom", "divisor"] ["top", "bottom"] (defScope sLow) := ⟨rfl, rfl, rfl, by decide +kernel, rfl, by decide +kernel, by decide +kernel⟩
theorem ok_Low {f : Addr} {fd : FuncData} (F : Fun K "lowest" "lowest" sLow f fd)
    {f_Gcd : Addr} {d_Gcd : FuncData} (G_Gcd : FnOk P w K mg base CX0 1 f_Gcd d_Gcd ["one", "other"] spGcd) (b_Gcd : Binds K d_Gcd ["one", "other"] []) (k_Gcd : PySem.W.keepIn K (.ref f_Gcd) = true) (m_Gcd : mg "common_divisor" = some (.ref f_Gcd))
     :
    FnOk P w K mg base CX0 2 f fd ["top", "bottom"] spLow := by
  refine F.ok scLow (fun vs H Q E h => ?_) (fun cdv A outer s H vs Q E hr h => ?_)
  · obtain ⟨a, b, rfl, _⟩ := h
    rfl
  obtain ⟨a, b, rfl, ha, hb, hz, k⟩ := h
  have hu := hu_of hr
  have hr1 : Room 1 _ := hr.mono (by decide)
  refine ⟨_, (pss_cons (ps_set (i := 2) scLow.nd rfl (Or.inl rfl) (pe_call G_Gcd hr1 (by rfl) m_Gcd k_Gcd b_Gcd .nil pass0 (pa_cons (pv 0) (pa_cons (pv 1) pa_nil))))
    (pss_one (ps_ret (pe_tup (pa_cons (pe_op op_fdivC (pv 0) (pv 2)) (pa_cons (pe_op op_fdivC (pv 1) (pv 2)) pa_nil)))))), ?_⟩
  have g0 : 0 < gI a b := gI_pos hb
  have g1 : gI a b < 2 ^ 200 * 2 ^ 200 := Int.lt_of_le_of_lt (gI_le hb) hz
  refine ⟨_, rfl, _, rfl, a, b, rfl, ha, by (first | exact Int.le_trans (b := 1) (by decide +kernel) (by with_reducible assumption) | omega), ?_⟩
  refine ⟨_, rfl, _, rfl, _, _, rfl, rfl, ⟨g0, g1⟩, _, rfl, _, rfl, _, _, rfl, rfl, ⟨g0, g1⟩, by show 2 ≤ sizeLine; decide, fun p hp => k p hp⟩
theorem scAdd : FnScope ["one", "other"] ["one", "other"] (defScope sAdd) := ⟨rfl, rfl, rfl, by decide +kernel, rfl, by decide +kernel, by decide +kernel⟩
theorem ok_Add {f : Addr} {fd : FuncData} (F : Fun K "added" "added" sAdd f fd)
    {f_Low : Addr} {d_Low : FuncData} (G_Low : FnOk P w K mg base CX0 2 f_Low d_Low ["top", "bottom"] spLow) (b_Low : Binds K d_Low ["top", "bottom"] []) (k_Low : PySem.W.keepIn K (.ref f_Low) = true) (m_Low : mg "lowest" = some (.ref f_Low))
     :
    FnOk P w K mg base CX0 3 f fd ["one", "other"] spAdd := by
  refine F.ok scAdd (fun vs H Q E h => ?_) (fun cdv A outer s H vs Q E hr h => ?_)
  · obtain ⟨p, q, u, e, rfl, _⟩ := h
    rfl
  obtain ⟨p, q, ⟨a, b⟩, ⟨c, d⟩, rfl, hp, hq, ⟨ha, hb, b1⟩, ⟨hc, hd, d1⟩, k⟩ := h
  have hu := hu_of hr
  have hr1 : Room 1 _ := hr.mono (by decide)
  have hr2 : Room 2 _ := hr.mono (by decide)
  refine ⟨_, (pss_one (ps_ret (pe_call G_Low hr2 (by rfl) m_Low k_Low b_Low .nil pass0 (pa_cons (pe_op op_add (pe_op op_mulB (pe_ix ix_tup (pv 0) pe_int (fun _ _ => rfl)) (pe_ix ix_tup (pv 1) pe_int (fun _ _ => rfl))) (pe_op op_mulB (pe_ix ix_tup (pv 1) pe_int (fun _ _ => rfl)) (pe_ix ix_tup (pv 0) pe_int (fun _ _ => rfl)))) (pa_cons (pe_op op_mulB (pe_ix ix_tup (pv 0) pe_int (fun _ _ => rfl)) (pe_ix ix_tup (pv 1) pe_int (fun _ _ => rfl))) pa_nil))))), ?_⟩
  replace ha : B72 a := ha
  replace hb : B72 b := hb
  replace hc : B72 c := hc
  replace hd : B72 d := hd
  replace b1 : 1 ≤ b := b1
  replace d1 : 1 ≤ d := d1

  have m1 := mul_bd ha.1 ha.2 hd.1 hd.2
  have m0 := mul_bd hc.1 hc.2 hb.1 hb.2
  have m2 := mul_bd hb.1 hb.2 hd.1 hd.2
  have m3 : 1 ≤ b * d := by have := Int.mul_pos (show 0 < b by (first | exact Int.lt_of_lt_of_le (b := 1) (by decide +kernel) (by with_reducible assumption) | omega)) (show 0 < d by (first | exact Int.lt_of_lt_of_le (b := 1) (by decide +kernel) (by with_reducible assumption) | omega)); (first | exact Int.add_one_le_of_lt (a := 0) (by with_reducible assumption) | omega)
  refine ⟨_, rfl, p, _, _, _, rfl, rfl, SqT.of hp, ix0 a b, _, rfl, q, _, _, _, rfl, rfl, SqT.of hq, ix1 c d, _, _, rfl, rfl, ⟨ha.below, hd.below⟩, ?_⟩
  refine ⟨_, rfl, q, _, _, _, rfl, rfl, SqT.of hq, ix0 c d, _, rfl, p, _, _, _, rfl, rfl, SqT.of hp, ix1 a b, _, _, rfl, rfl, ⟨hc.below, hb.below⟩, _, _, rfl, rfl, ?_⟩
  refine ⟨_, rfl, p, _, _, _, rfl, rfl, SqT.of hp, ix1 a b, _, rfl, q, _, _, _, rfl, rfl, SqT.of hq, ix1 c d, _, _, rfl, rfl, ⟨hb.below, hd.below⟩, ?_⟩
  exact ⟨_, _, rfl, by omega, m3, Int.lt_trans m2.2 (by decide), k⟩
theorem scTimes : FnScope ["one", "other"] ["one", "other"] (defScope sTimes) := ⟨rfl, rfl, rfl, by decide +kernel, rfl, by decide +kernel, by decide +kernel⟩
theorem ok_Times {f : Addr} {fd : FuncData} (F : Fun K "times" "times" sTimes f fd)
    {f_Low : Addr} {d_Low : FuncData} (G_Low : FnOk P w K mg base CX0 2 f_Low d_Low ["top", "bottom"] spLow) (b_Low : Binds K d_Low ["top", "bottom"] []) (k_Low : PySem.W.keepIn K (.ref f_Low) = true) (m_Low : mg "lowest" = some (.ref f_Low))
     :
    FnOk P w K mg base CX0 3 f fd ["one", "other"] spTimes := by
  refine F.ok scTimes (fun vs H Q E h => ?_) (fun cdv A outer s H vs Q E hr h => ?_)
  · obtain ⟨p, q, a, b, c, d, rfl, _⟩ := h
    rfl
  obtain ⟨p, q, a, b, c, d, rfl, hp, hq, ha, hb, hc, hd, b1, d1, k⟩ := h
  have hu := hu_of hr
  have hr1 : Room 1 _ := hr.mono (by decide)
  have hr2 : Room 2 _ := hr.mono (by decide)
  refine ⟨_, (pss_one (ps_ret (pe_call G_Low hr2 (by rfl) m_Low k_Low b_Low .nil pass0 (pa_cons (pe_op op_mulB (pe_ix ix_tup (pv 0) pe_int (fun _ _ => rfl)) (pe_ix ix_tup (pv 1) pe_int (fun _ _ => rfl))) (pa_cons (pe_op op_mulB (pe_ix ix_tup (pv 0) pe_int (fun _ _ => rfl)) (pe_ix ix_tup (pv 1) pe_int (fun _ _ => rfl))) pa_nil))))), ?_⟩
  have m1 := mul_bd ha.1 ha.2 hc.1 hc.2
  have m2 := mul_bd hb.1 hb.2 hd.1 hd.2
  have m3 : 1 ≤ b * d := by have := Int.mul_pos (show 0 < b by (first | exact Int.lt_of_lt_of_le (b := 1) (by decide +kernel) (by with_reducible assumption) | omega)) (show 0 < d by (first | exact Int.lt_of_lt_of_le (b := 1) (by decide +kernel) (by with_reducible assumption) | omega)); (first | exact Int.add_one_le_of_lt (a := 0) (by with_reducible assumption) | omega)
  refine ⟨_, rfl, p, _, _, _, rfl, rfl, SqT.of hp, ix0 a b, _, rfl, q, _, _, _, rfl, rfl, SqT.of hq, ix0 c d, _, _, rfl, rfl, ⟨ha.below, hc.below⟩, ?_⟩
  refine ⟨_, rfl, p, _, _, _, rfl, rfl, SqT.of hp, ix1 a b, _, rfl, q, _, _, _, rfl, rfl, SqT.of hq, ix1 c d, _, _, rfl, rfl, ⟨hb.below, hd.below⟩, ?_⟩
  exact ⟨_, _, rfl, m1.1, m3, Int.lt_trans m2.2 (by decide), k⟩
theorem scMinus : FnScope ["one", "other"] ["one", "other"] (defScope sMinus) := ⟨rfl, rfl, rfl, by decide +kernel, rfl, by decide +kernel, by decide +kernel⟩
theorem ok_Minus {f : Addr} {fd : FuncData} (F : Fun K "minus" "minus" sMinus f fd)
    {f_Low : Addr} {d_Low : FuncData} (G_Low : FnOk P w K mg base CX0 2 f_Low d_Low ["top", "bottom"] spLow) (b_Low : Binds K d_Low ["top", "bottom"] []) (k_Low : PySem.W.keepIn K (.ref f_Low) = true) (m_Low : mg "lowest" = some (.ref f_Low))
     :
    FnOk P w K mg base CX0 3 f fd ["one", "other"] (spMinusK K) := by
  refine F.ok scMinus (fun vs H Q E h => ?_) (fun cdv A outer s H vs Q E hr h => ?_)
  · obtain ⟨p, q, a, b, c, d, rfl, _⟩ := h
    rfl
  obtain ⟨p, q, a, b, c, d, rfl, hp, hq, ha, hb, hc, hd, b1, d1, hle, k⟩ := h
  have hu := hu_of hr
  have hr1 : Room 1 _ := hr.mono (by decide)
  have hr2 : Room 2 _ := hr.mono (by decide)
  refine ⟨_, (pss_one (ps_ret (pe_call G_Low hr2 (by rfl) m_Low k_Low b_Low .nil pass0 (pa_cons (pe_op op_sub (pe_op op_mulB (pe_ix ix_tup (pv 0) pe_int (fun _ _ => rfl)) (pe_ix ix_tup (pv 1) pe_int (fun _ _ => rfl))) (pe_op op_mulB (pe_ix ix_tup (pv 1) pe_int (fun _ _ => rfl)) (pe_ix ix_tup (pv 0) pe_int (fun _ _ => rfl)))) (pa_cons (pe_op op_mulB (pe_ix ix_tup (pv 0) pe_int (fun _ _ => rfl)) (pe_ix ix_tup (pv 1) pe_int (fun _ _ => rfl))) pa_nil))))), ?_⟩
  have m2 := mul_bd hb.1 hb.2 hd.1 hd.2
  have m3 : 1 ≤ b * d := by have := Int.mul_pos (show 0 < b by (first | exact Int.lt_of_lt_of_le (b := 1) (by decide +kernel) (by with_reducible assumption) | omega)) (show 0 < d by (first | exact Int.lt_of_lt_of_le (b := 1) (by decide +kernel) (by with_reducible assumption) | omega)); (first | exact Int.add_one_le_of_lt (a := 0) (by with_reducible assumption) | omega)
  refine ⟨_, rfl, p, _, _, _, rfl, rfl, hp, ix0 a b, _, rfl, q, _, _, _, rfl, rfl, SqT.of hq, ix1 c d, _, _, rfl, rfl, ⟨ha.below, hd.below⟩, ?_⟩
  refine ⟨_, rfl, q, _, _, _, rfl, rfl, SqT.of hq, ix0 c d, _, rfl, p, _, _, _, rfl, rfl, hp, ix1 a b, _, _, rfl, rfl, ⟨hc.below, hb.below⟩, _, _, rfl, rfl, ?_⟩
  refine ⟨_, rfl, p, _, _, _, rfl, rfl, hp, ix1 a b, _, rfl, q, _, _, _, rfl, rfl, SqT.of hq, ix1 c d, _, _, rfl, rfl, ⟨hb.below, hd.below⟩, ?_⟩
  exact ⟨_, _, rfl, by (first | exact Int.sub_nonneg_of_le (by with_reducible assumption) | omega), m3, Int.lt_trans m2.2 (by decide), k⟩
theorem scDivd : FnScope ["one", "other"] ["one", "other"] (defScope sDivd) := ⟨rfl, rfl, rfl, by decide +kernel, rfl, by decide +kernel, by decide +kernel⟩
theorem ok_Divd {f : Addr} {fd : FuncData} (F : Fun K "divided" "divided" sDivd f fd)
    {f_Low : Addr} {d_Low : FuncData} (G_Low : FnOk P w K mg base CX0 2 f_Low d_Low ["top", "bottom"] spLow) (b_Low : Binds K d_Low ["top", "bottom"] []) (k_Low : PySem.W.keepIn K (.ref f_Low) = true) (m_Low : mg "lowest" = some (.ref f_Low))
     :
    FnOk P w K mg base CX0 3 f fd ["one", "other"] spDiv := by
  refine F.ok scDivd (fun vs H Q E h => ?_) (fun cdv A outer s H vs Q E hr h => ?_)
  · obtain ⟨p, q, u, e, rfl, _⟩ := h
    rfl
  obtain ⟨p, q, ⟨a, b⟩, ⟨c, d⟩, rfl, hp, hq, ⟨ha, hb, b1⟩, ⟨hc, hd, d1⟩, c1, k⟩ := h
  have hu := hu_of hr
  have hr1 : Room 1 _ := hr.mono (by decide)
  have hr2 : Room 2 _ := hr.mono (by decide)
  refine ⟨_, (pss_one (ps_ret (pe_call G_Low hr2 (by rfl) m_Low k_Low b_Low .nil pass0 (pa_cons (pe_op op_mulB (pe_ix ix_tup (pv 0) pe_int (fun _ _ => rfl)) (pe_ix ix_tup (pv 1) pe_int (fun _ _ => rfl))) (pa_cons (pe_op op_mulB (pe_ix ix_tup (pv 0) pe_int (fun _ _ => rfl)) (pe_ix ix_tup (pv 1) pe_int (fun _ _ => rfl))) pa_nil))))), ?_⟩
  replace ha : B72 a := ha
  replace hb : B72 b := hb
  replace hc : B72 c := hc
  replace hd : B72 d := hd
  replace b1 : 1 ≤ b := b1
  replace d1 : 1 ≤ d := d1

  replace c1 : 1 ≤ c := c1
  have m1 := mul_bd ha.1 ha.2 hd.1 hd.2
  have m2 := mul_bd hb.1 hb.2 hc.1 hc.2
  have m3 : 1 ≤ b * c := by have := Int.mul_pos (show 0 < b by (first | exact Int.lt_of_lt_of_le (b := 1) (by decide +kernel) (by with_reducible assumption) | omega)) (show 0 < c by (first | exact Int.lt_of_lt_of_le (b := 1) (by decide +kernel) (by with_reducible assumption) | omega)); (first | exact Int.add_one_le_of_lt (a := 0) (by with_reducible assumption) | omega)
  refine ⟨_, rfl, p, _, _, _, rfl, rfl, SqT.of hp, ix0 a b, _, rfl, q, _, _, _, rfl, rfl, SqT.of hq, ix1 c d, _, _, rfl, rfl, ⟨ha.below, hd.below⟩, ?_⟩
  refine ⟨_, rfl, p, _, _, _, rfl, rfl, SqT.of hp, ix1 a b, _, rfl, q, _, _, _, rfl, rfl, SqT.of hq, ix0 c d, _, _, rfl, rfl, ⟨hb.below, hc.below⟩, ?_⟩
  exact ⟨_, _, rfl, m1.1, m3, Int.lt_trans m2.2 (by decide), k⟩
theorem scPow : FnScope ["one", "k", "top", "bottom", "step"] ["one", "k"] (defScope sPow) := ⟨rfl, rfl, rfl, by decide +kernel, rfl, by decide +kernel, by decide +kernel⟩
theorem ok_Pow {f : Addr} {fd : FuncData} (F : Fun K "power" "power" sPow f fd)
    (m_range : mg "range" = none) :
    FnOk P w K mg base CX0 1 f fd ["one", "k"] spPow := by
  refine F.ok scPow (fun vs H Q E h => ?_) (fun cdv A outer s H vs Q E hr h => ?_)
  · obtain ⟨p, a, b, n, rfl, _⟩ := h
    rfl
  obtain ⟨p, a, b, n, rfl, hp, a0, a9, b0, b9, n0, n1, k⟩ := h
  have hu := hu_of hr
  refine ⟨_, (pss_cons (ps_set (i := 2) scPow.nd rfl (Or.inl rfl) pe_int)
    (pss_cons (ps_set (i := 3) scPow.nd rfl (Or.inl rfl) pe_int)
    (pss_cons (ps_for PassesOwn.never rfl (pi_range1 (by rfl) m_range (pa_cons (pv 1) pa_nil)) (pg_name (i := 4) scPow.nd rfl (Or.inl rfl))
    (pss_cons (ps_set (i := 2) scPow.nd rfl (Or.inl rfl) (pe_op op_mulB (pv 2) (pe_ix ix_tup (pv 0) pe_int (fun _ _ => rfl))))
    (pss_one (ps_set (i := 3) scPow.nd rfl (Or.inl rfl) (pe_op op_mulB (pv 3) (pe_ix ix_tup (pv 0) pe_int (fun _ _ => rfl)))))))
    (pss_one (ps_ret (pe_tup (pa_cons (pv 2) (pa_cons (pv 3) pa_nil)))))))), ?_⟩
  refine ⟨_, rfl, _, rfl, by omega, by (first | exact Int.lt_of_le_of_lt (by with_reducible assumption) (by decide +kernel) | omega), for_rangeA (n := n.toNat) (fun i σ H1 => H1 = H ∧ ∃ v, σ = [some (.ref p), some (.int n), some (.int (a ^ i)), some (.int (b ^ i)), v])
    ⟨rfl, none, by rw [Int.pow_zero, Int.pow_zero]; rfl⟩ ?_ ?_⟩
  · rintro D' i σ H1 hi ⟨rfl, v, rfl⟩
    have e1 := pow9 (n := i) a0 a9 (by omega)
    have e2 := pow9 (n := i) b0 b9 (by omega)
    refine ⟨_, rfl, _, rfl, p, _, _, _, rfl, rfl, SqT.of hp, ix0 a b, _, _, rfl, rfl, ⟨⟨by omega, by omega⟩, ⟨by (first | exact Int.lt_of_lt_of_le (b := 0) (by decide +kernel) (by with_reducible assumption) | omega), by (first | exact Int.lt_of_le_of_lt (by with_reducible assumption) (by decide +kernel) | omega)⟩⟩, ?_⟩
    refine ⟨_, rfl, _, rfl, p, _, _, _, rfl, rfl, SqT.of hp, ix1 a b, _, _, rfl, rfl, ⟨⟨by omega, by omega⟩, ⟨by (first | exact Int.lt_of_lt_of_le (b := 0) (by decide +kernel) (by with_reducible assumption) | omega), by (first | exact Int.lt_of_le_of_lt (by with_reducible assumption) (by decide +kernel) | omega)⟩⟩, ?_⟩
    refine ⟨rfl, some (.int (0 + (i : Int))), ?_⟩
    rw [Int.pow_succ, Int.pow_succ]
    rfl
  · rintro σ H1 ⟨rfl, v, rfl⟩
    exact ⟨_, rfl, _, rfl, by show 2 ≤ sizeLine; decide, fun r hr' => k r hr'⟩
theorem scLess : FnScope ["one", "other"] ["one", "other"] (defScope sLess) := ⟨rfl, rfl, rfl, by decide +kernel, rfl, by decide +kernel, by decide +kernel⟩
theorem ok_Less {f : Addr} {fd : FuncData} (F : Fun K "less" "less" sLess f fd)
     :
    FnOk P w K mg base CX0 1 f fd ["one", "other"] spLessF := by
  refine F.ok scLess (fun vs H Q E h => ?_) (fun cdv A outer s H vs Q E hr h => ?_)
  · obtain ⟨p, q, a, b, c, d, rfl, _⟩ := h
    rfl
  obtain ⟨p, q, a, b, c, d, rfl, hp, hq, ha, hb, hc, hd, k⟩ := h
  have hu := hu_of hr
  refine ⟨_, (pss_one (ps_ret (pe_cmpR op_lt (pe_op op_mulB (pe_ix ix_tup (pv 0) pe_int (fun _ _ => rfl)) (pe_ix ix_tup (pv 1) pe_int (fun _ _ => rfl))) (pe_op op_mulB (pe_ix ix_tup (pv 1) pe_int (fun _ _ => rfl)) (pe_ix ix_tup (pv 0) pe_int (fun _ _ => rfl))) (nomark _)))), ?_⟩
  refine ⟨_, rfl, p, _, _, _, rfl, rfl, SqT.of hp, ix0 _ _, _, rfl, q, _, _, _, rfl, rfl, SqT.of hq, ix1 _ _, _, _, rfl, rfl, ⟨ha.below, hd.below⟩, ?_⟩
  refine ⟨_, rfl, q, _, _, _, rfl, rfl, SqT.of hq, ix0 _ _, _, rfl, p, _, _, _, rfl, rfl, SqT.of hp, ix1 _ _, _, _, rfl, rfl, ⟨hc.below, hb.below⟩, ?_⟩
  exact ⟨_, _, rfl, rfl, k⟩
end
end Mine
namespace Mine
open PySem L2
section
variable {P : Program} {w : World} {K : PySem.W.Frag} {mg : Str → Option Value} {base : Heap}
theorem scShare : FnScope ["steepness", "k", "top", "bottom"] ["steepness", "k"] (defScope sShare) := ⟨rfl, rfl, rfl, by decide +kernel, rfl, by decide +kernel, by decide +kernel⟩
theorem ok_Share {f : Addr} {fd : FuncData} (F : Fun K "share_of" "share_of" sShare f fd)
    {f_Times : Addr} {d_Times : FuncData} (G_Times : FnOk P w K mg base CX0 3 f_Times d_Times ["one", "other"] spTimes) (b_Times : Binds K d_Times ["one", "other"] []) (k_Times : PySem.W.keepIn K (.ref f_Times) = true) (m_Times : mg "times" = some (.ref f_Times))
    {f_Pow : Addr} {d_Pow : FuncData} (G_Pow : FnOk P w K mg base CX0 1 f_Pow d_Pow ["one", "k"] spPow) (b_Pow : Binds K d_Pow ["one", "k"] []) (k_Pow : PySem.W.keepIn K (.ref f_Pow) = true) (m_Pow : mg "power" = some (.ref f_Pow))
    (m_abs : mg "abs" = none) :
    FnOk P w K mg base CX0 4 f fd ["steepness", "k"] (spFr (-21) 21 (fun p q k => shN p q k.natAbs) (fun p q k => shD p q k.natAbs)) := by
  refine F.ok scShare (fun vs H Q E h => ?_) (fun cdv A outer s H vs Q E hr h => ?_)
  · obtain ⟨st, p, q, n, rfl, _⟩ := h
    rfl
  obtain ⟨st, p, q, n, rfl, hst, hs, n0, n1, k⟩ := h
  have hu := hu_of hr
  have hr1 : Room 1 _ := hr.mono (by decide)
  have hr3 : Room 3 _ := hr.mono (by decide)
  refine ⟨_, (pss_cons (ps_set (i := 2) scShare.nd rfl (Or.inl rfl) (pe_ix ix_tup (pv 0) pe_int (fun _ _ => rfl)))
    (pss_cons (ps_set (i := 3) scShare.nd rfl (Or.inl rfl) (pe_ix ix_tup (pv 0) pe_int (fun _ _ => rfl)))
    (pss_one (ps_ret (pe_call G_Times hr3 (by rfl) m_Times k_Times b_Times .nil pass0 (pa_cons (pe_tup (pa_cons (pe_op op_sub (pv 3) (pv 2)) (pa_cons (pe_op op_add (pv 3) (pv 2)) pa_nil))) (pa_cons (pe_call G_Pow hr1 (by rfl) m_Pow k_Pow b_Pow .nil pass0 (pa_cons (pv 0) (pa_cons (pe_callB call_abs (by rfl) m_abs PyProof.Rows.boot_abs (pa_cons (pv 1) pa_nil)) pa_nil))) pa_nil))))))), ?_⟩
  obtain ⟨p1, pq, q9⟩ := id hs
  refine ⟨_, rfl, st, _, _, _, rfl, rfl, SqT.of hst, ix0 p q, _, rfl, st, _, _, _, rfl, rfl, SqT.of hst, ix1 p q, ?_⟩
  refine ⟨_, rfl, _, rfl, _, _, rfl, rfl, _, rfl, _, rfl, _, _, rfl, rfl, by show 2 ≤ sizeLine; decide, fun t ht => ?_⟩
  have g1 : Same H (upd H t (.tup [.int (q - p), .int (q + p)])) := same_new ht _
  have ht1 : TupAt (upd H t (.tup [.int (q - p), .int (q + p)])) t (q - p) (q + p) := upd_same
  generalize upd H t (.tup [.int (q - p), .int (q + p)]) = H1 at g1 ht1 ⊢
  have ea : (if n < 0 then -n else n) = (n.natAbs : Int) := abs_int n
  refine ⟨_, rfl, _, rfl, _, rfl, st, p, q, _, rfl, g1 _ _ hst, by (first | exact Int.le_trans (b := 1) (by decide +kernel) (by with_reducible assumption) | omega), by omega, by omega, by (first | with_reducible assumption | omega), by rw [ea]; (first | with_reducible exact Int.natCast_nonneg _ | omega), by rw [ea]; omega, fun r hr' => ?_⟩
  rw [ea, Int.toNat_natCast]
  have g2 : Same H1 (upd H1 r (.tup [.int (p ^ n.natAbs), .int (q ^ n.natAbs)])) := same_new hr' _
  have hr2 : TupAt (upd H1 r (.tup [.int (p ^ n.natAbs), .int (q ^ n.natAbs)])) r (p ^ n.natAbs) (q ^ n.natAbs) := upd_same
  generalize upd H1 r (.tup [.int (p ^ n.natAbs), .int (q ^ n.natAbs)]) = H2 at g2 hr2 ⊢
  have e1 := pow9 (a := p) (n := n.natAbs) (by (first | exact Int.le_trans (b := 1) (by decide +kernel) (by with_reducible assumption) | omega)) (by omega) (by omega)
  have e2 := pow9 (a := q) (n := n.natAbs) (by omega) (by (first | with_reducible assumption | omega)) (by omega)
  have e3 : 1 ≤ q ^ n.natAbs := by have : (0 : Int) < q ^ n.natAbs := Int.pow_pos (by omega); (first | exact Int.add_one_le_of_lt (a := 0) (by with_reducible assumption) | omega)
  refine ⟨t, r, _, _, _, _, rfl, g2 _ _ ht1, hr2, ⟨by omega, by omega⟩, ⟨by omega, by omega⟩, ⟨e1.1, by omega⟩, ⟨e2.1, by omega⟩, by omega, e3, fun u hu' => ?_⟩
  exact k _ u (g1.trans (g2.trans (same_new hu' _))) upd_same
theorem scFar : FnScope ["steepness", "k"] ["steepness", "k"] (defScope sFar) := ⟨rfl, rfl, rfl, by decide +kernel, rfl, by decide +kernel, by decide +kernel⟩
theorem ok_Far {f : Addr} {fd : FuncData} (F : Fun K "far_tail" "far_tail" sFar f fd)
    {f_Times : Addr} {d_Times : FuncData} (G_Times : FnOk P w K mg base CX0 3 f_Times d_Times ["one", "other"] spTimes) (b_Times : Binds K d_Times ["one", "other"] []) (k_Times : PySem.W.keepIn K (.ref f_Times) = true) (m_Times : mg "times" = some (.ref f_Times))
    {f_Pow : Addr} {d_Pow : FuncData} (G_Pow : FnOk P w K mg base CX0 1 f_Pow d_Pow ["one", "k"] spPow) (b_Pow : Binds K d_Pow ["one", "k"] []) (k_Pow : PySem.W.keepIn K (.ref f_Pow) = true) (m_Pow : mg "power" = some (.ref f_Pow))
     :
    FnOk P w K mg base CX0 4 f fd ["steepness", "k"] (spFr 0 21 (fun p q k => tlN p q k.toNat) (fun p q k => shD p q k.toNat)) := by
  refine F.ok scFar (fun vs H Q E h => ?_) (fun cdv A outer s H vs Q E hr h => ?_)
  · obtain ⟨st, p, q, n, rfl, _⟩ := h
    rfl
  obtain ⟨st, p, q, n, rfl, hst, hs, n0, n1, k⟩ := h
  have hu := hu_of hr
  have hr1 : Room 1 _ := hr.mono (by decide)
  have hr3 : Room 3 _ := hr.mono (by decide)
  refine ⟨_, (pss_one (ps_ret (pe_call G_Times hr3 (by rfl) m_Times k_Times b_Times .nil pass0 (pa_cons (pe_tup (pa_cons (pe_ix ix_tup (pv 0) pe_int (fun _ _ => rfl)) (pa_cons (pe_op op_add (pe_ix ix_tup (pv 0) pe_int (fun _ _ => rfl)) (pe_ix ix_tup (pv 0) pe_int (fun _ _ => rfl))) pa_nil))) (pa_cons (pe_call G_Pow hr1 (by rfl) m_Pow k_Pow b_Pow .nil pass0 (pa_cons (pv 0) (pa_cons (pv 1) pa_nil))) pa_nil))))), ?_⟩
  obtain ⟨p1, pq, q9⟩ := id hs
  refine ⟨_, rfl, st, _, _, _, rfl, rfl, SqT.of hst, ix1 p q, _, rfl, st, _, _, _, rfl, rfl, SqT.of hst, ix1 p q, _, rfl, st, _, _, _, rfl, rfl, SqT.of hst, ix0 p q, _, _, rfl, rfl, by show 2 ≤ sizeLine; decide, fun t ht => ?_⟩
  have g1 : Same H (upd H t (.tup [.int q, .int (q + p)])) := same_new ht _
  have ht1 : TupAt (upd H t (.tup [.int q, .int (q + p)])) t q (q + p) := upd_same
  generalize upd H t (.tup [.int q, .int (q + p)]) = H1 at g1 ht1 ⊢
  refine ⟨_, rfl, _, rfl, st, p, q, n, rfl, g1 _ _ hst, by (first | exact Int.le_trans (b := 1) (by decide +kernel) (by with_reducible assumption) | omega), by omega, by omega, by (first | with_reducible assumption | omega), n0, n1, fun r hr' => ?_⟩
  have g2 : Same H1 (upd H1 r (.tup [.int (p ^ n.toNat), .int (q ^ n.toNat)])) := same_new hr' _
  have hr2 : TupAt (upd H1 r (.tup [.int (p ^ n.toNat), .int (q ^ n.toNat)])) r (p ^ n.toNat) (q ^ n.toNat) := upd_same
  generalize upd H1 r (.tup [.int (p ^ n.toNat), .int (q ^ n.toNat)]) = H2 at g2 hr2 ⊢
  have e1 := pow9 (a := p) (n := n.toNat) (by (first | exact Int.le_trans (b := 1) (by decide +kernel) (by with_reducible assumption) | omega)) (by omega) (by omega)
  have e2 := pow9 (a := q) (n := n.toNat) (by omega) (by (first | with_reducible assumption | omega)) (by omega)
  have e3 : 1 ≤ q ^ n.toNat := by have : (0 : Int) < q ^ n.toNat := Int.pow_pos (by omega); (first | exact Int.add_one_le_of_lt (a := 0) (by with_reducible assumption) | omega)
  refine ⟨t, r, _, _, _, _, rfl, g2 _ _ ht1, hr2, ⟨by omega, by (first | exact Int.lt_of_le_of_lt (by with_reducible assumption) (by decide +kernel) | omega)⟩, ⟨by omega, by omega⟩, ⟨e1.1, by omega⟩, ⟨e2.1, by omega⟩, by omega, e3, fun u hu' => ?_⟩
  exact k _ u (g1.trans (g2.trans (same_new hu' _))) upd_same
theorem scTail : FnScope ["steepness", "k"] ["steepness", "k"] (defScope sTail) := ⟨rfl, rfl, rfl, by decide +kernel, rfl, by decide +kernel, by decide +kernel⟩
theorem ok_Tail {f : Addr} {fd : FuncData} (F : Fun K "tail_of" "tail_of" sTail f fd)
    {f_Minus : Addr} {d_Minus : FuncData} (G_Minus : FnOk P w K mg base CX0 3 f_Minus d_Minus ["one", "other"] (spMinusK K)) (b_Minus : Binds K d_Minus ["one", "other"] []) (k_Minus : PySem.W.keepIn K (.ref f_Minus) = true) (m_Minus : mg "minus" = some (.ref f_Minus))
    {f_Far : Addr} {d_Far : FuncData} (G_Far : FnOk P w K mg base CX0 4 f_Far d_Far ["steepness", "k"] (spFr 0 21 (fun p q k => tlN p q k.toNat) (fun p q k => shD p q k.toNat))) (b_Far : Binds K d_Far ["steepness", "k"] []) (k_Far : PySem.W.keepIn K (.ref f_Far) = true) (m_Far : mg "far_tail" = some (.ref f_Far))
     :
    FnOk P w K mg base CX0 5 f fd ["steepness", "k"] (spFr (-20) 21 tN tD) := by
  refine F.ok scTail (fun vs H Q E h => ?_) (fun cdv A outer s H vs Q E hr h => ?_)
  · obtain ⟨st, p, q, n, rfl, _⟩ := h
    rfl
  obtain ⟨st, p, q, n, rfl, hst, hs, n0, n1, k⟩ := h
  have hu := hu_of hr
  have hr1 : Room 1 _ := hr.mono (by decide)
  have hr3 : Room 3 _ := hr.mono (by decide)
  have hr4 : Room 4 _ := hr.mono (by decide)
  refine ⟨_, (pss_cons (ps_if (pt_cmpR op_ge (pv 1) pe_int (nomark _)) (pss_one (ps_ret (pe_call G_Far hr4 (by rfl) m_Far k_Far b_Far .nil pass0 (pa_cons (pv 0) (pa_cons (pv 1) pa_nil))))) pss_nil)
    (pss_one (ps_ret (pe_call G_Minus hr3 (by rfl) m_Minus k_Minus b_Minus .nil pass0 (pa_cons (pe_tup (pa_cons pe_int (pa_cons pe_int pa_nil))) (pa_cons (pe_call G_Far hr4 (by rfl) m_Far k_Far b_Far .nil pass0 (pa_cons (pv 0) (pa_cons (pe_op op_sub pe_int (pv 1)) pa_nil))) pa_nil)))))), ?_⟩
  obtain ⟨p1, pq, q9⟩ := id hs
  refine ⟨_, rfl, _, _, rfl, rfl, _, rfl, ?_⟩
  refine ite2 (fun c => ?_) (fun c => ?_)
  · have c0 : 0 ≤ n := of_decide_eq_true c
    refine ⟨_, rfl, _, rfl, st, p, q, n, rfl, hst, hs, c0, n1, fun H' r s t => k H' r s ?_⟩
    unfold tN tD
    simp only [if_pos c0]
    exact t
  · have c0 : ¬ 0 ≤ n := fun z => c (decide_eq_true z)
    refine ⟨by show 2 ≤ sizeLine; decide, fun t ht => ?_⟩
    have g1 : Same H (upd H t (.tup [.int 1, .int 1])) := same_new ht _
    have ht1 : TupAt (upd H t (.tup [.int 1, .int 1])) t 1 1 := upd_same
    generalize upd H t (.tup [.int 1, .int 1]) = H1 at g1 ht1 ⊢
    refine ⟨_, rfl, _, rfl, _, _, rfl, rfl, st, p, q, 1 - n, rfl, g1 _ _ hst, hs, by omega, by omega, fun H2 r g2 hr2' => ?_⟩
    have hr2 : TupAt H2 r (low1 (tlN p q (1 - n).toNat) (shD p q (1 - n).toNat)) (low2 (tlN p q (1 - n).toNat) (shD p q (1 - n).toNat)) := hr2'
    have bd := sh_bd hs (n := (1 - n).toNat) (by omega)
    have sp := shD_pos p1 pq (1 - n).toNat
    have lb := low_bd bd.2.2 bd.2.1 sp
    have l1 := low2_pos (a := tlN p q (1 - n).toNat) sp
    have l2 := low_le (tl_le p1 pq (1 - n).toNat) sp
    refine ⟨t, r, 1, 1, _, _, rfl, SqT.of (g2 _ _ ht1), hr2, ⟨by decide, by decide⟩, ⟨by decide, by decide⟩, lb.1, lb.2, by decide, l1, by omega, fun u hu' => ?_⟩
    refine k _ u (g1.trans (g2.trans (same_new hu' _))) ?_
    have rt := low_ratio (a := tlN p q (1 - n).toNat) (b := shD p q (1 - n).toNat) bd.2.2.1 sp
    have e := low_eq (a := 1 * low2 (tlN p q (1 - n).toNat) (shD p q (1 - n).toNat) - low1 (tlN p q (1 - n).toNat) (shD p q (1 - n).toNat) * 1) (b := 1 * low2 (tlN p q (1 - n).toNat) (shD p q (1 - n).toNat))
      (c := shD p q (1 - n).toNat - tlN p q (1 - n).toNat) (d := shD p q (1 - n).toNat) (by omega) (by omega) (by have := tl_le p1 pq (1 - n).toNat; (first | exact Int.sub_nonneg_of_le (by with_reducible assumption) | omega)) sp (by
        generalize low2 (tlN p q (1 - n).toNat) (shD p q (1 - n).toNat) = y at rt ⊢
        generalize low1 (tlN p q (1 - n).toNat) (shD p q (1 - n).toNat) = x at rt ⊢
        grind)
    unfold tN tD
    simp only [if_neg c0]
    rw [← e.1, ← e.2]
    exact upd_same
theorem nd_Lad1 : (["rung", "steepness", "number"] : List Str).Nodup := by decide +kernel
theorem scLad : FnScope ["number", "steepness", "low", "high", "between", "lowest_rung", "highest_rung"] ["number", "steepness", "low", "high"] (defScope sLad) := ⟨rfl, rfl, rfl, by decide +kernel, rfl, by decide +kernel, by decide +kernel⟩
theorem ok_Lad {f : Addr} {fd : FuncData} (F : Fun K "ladder_table" "ladder_table" sLad f fd)
    {f_Tail : Addr} {d_Tail : FuncData} (G_Tail : FnOk P w K mg base CX0 5 f_Tail d_Tail ["steepness", "k"] (spFr (-20) 21 tN tD)) (b_Tail : Binds K d_Tail ["steepness", "k"] []) (k_Tail : PySem.W.keepIn K (.ref f_Tail) = true) (m_Tail : mg "tail_of" = some (.ref f_Tail))
    {f_Share : Addr} {d_Share : FuncData} (G_Share : FnOk P w K mg base CX0 4 f_Share d_Share ["steepness", "k"] (spFr (-21) 21 (fun p q k => shN p q k.natAbs) (fun p q k => shD p q k.natAbs))) (b_Share : Binds K d_Share ["steepness", "k"] []) (k_Share : PySem.W.keepIn K (.ref f_Share) = true) (m_Share : mg "share_of" = some (.ref f_Share))
    (m_tuple : mg "tuple" = none) (m_range : mg "range" = none) :
    FnOk P w K mg base CX0 6 f fd ["number", "steepness", "low", "high"] spLad := by
  refine F.ok scLad (fun vs H Q E h => ?_) (fun cdv A outer s H vs Q E hr h => ?_)
  · obtain ⟨st, p, q, n, lo, hi, rfl, _⟩ := h
    rfl
  obtain ⟨st, p, q, n, lo, hi, rfl, hst, hs, en, n0, n1, k⟩ := h
  have hu := hu_of hr
  have hr1 : Room 1 _ := hr.mono (by decide)
  have hr4 : Room 4 _ := hr.mono (by decide)
  have hr5 : Room 5 _ := hr.mono (by decide)
  refine ⟨_, (pss_cons (ps_if (pt_cmpR op_eq (pv 2) (pv 3) (nomark _)) (pss_one (ps_ret (pe_tup (pa_cons (pe_tup (pa_cons (pv 2) (pa_cons (pe_tup (pa_cons pe_int (pa_cons pe_int pa_nil))) pa_nil))) pa_nil)))) pss_nil)
    (pss_cons (ps_setC ["rung", "steepness", "number"] [none, some 1, some 0] (i := 4) scLad.nd rfl (Or.inl rfl) (pi_range2 (by rfl) m_range (pa_cons (pe_op op_add (pv 2) pe_int) (pa_cons (pv 3) pa_nil))) (fun _ _ _ _ => (pg_name (i := 0) (nd_Lad1) rfl (Or.inl rfl))) (fun _ _ _ _ => pf_nil) (fun _ _ _ _ => (pe_tup (pa_cons (pv 0) (pa_cons (pe_call G_Share hr4 (by rfl) m_Share k_Share b_Share .nil pass0 (pa_cons (pv 1) (pa_cons (pe_op op_sub (pv 0) (pv 2)) pa_nil))) pa_nil)))))
    (pss_cons (ps_set (i := 5) scLad.nd rfl (Or.inl rfl) (pe_tup (pa_cons (pv 2) (pa_cons (pe_call G_Tail hr5 (by rfl) m_Tail k_Tail b_Tail .nil pass0 (pa_cons (pv 1) (pa_cons (pe_op op_sub (pv 0) (pv 2)) pa_nil))) pa_nil))))
    (pss_cons (ps_set (i := 6) scLad.nd rfl (Or.inl rfl) (pe_tup (pa_cons (pv 3) (pa_cons (pe_call G_Tail hr5 (by rfl) m_Tail k_Tail b_Tail .nil pass0 (pa_cons (pv 1) (pa_cons (pe_op op_sub (pv 3) (pv 0)) pa_nil))) pa_nil))))
    (pss_one (ps_ret (pe_callTy call_tuple_of (by rfl) m_tuple PyProof.Rows.boot_tuple (pa_cons (pe_op op_cat (pe_op op_cat (pe_lst (pa_cons (pv 5) pa_nil)) (pv 4)) (pe_lst (pa_cons (pv 6) pa_nil))) pa_nil)))))))), ?_⟩
  obtain ⟨a1, a2, a3⟩ := id en
  refine ⟨_, rfl, _, rfl, rfl, _, rfl, ?_⟩
  by_cases c : lo = hi
  · refine iteP (by simp [c]) ?_
    refine ⟨_, rfl, by show 2 ≤ sizeLine; decide, fun t1 ht1 => ⟨by show 2 ≤ sizeLine; decide, fun t2 ht2 => ⟨by show 1 ≤ sizeLine; decide, fun t3 ht3 => ?_⟩⟩⟩
    refine k _ t3 _ ((same_new ht1 _).trans ((same_new ht2 _).trans (same_new ht3 _))) upd_same ?_
    unfold tableI
    rw [if_pos c]
    exact ⟨⟨t2, t1, rfl, same_new ht3 _ _ _ upd_same, same_new ht3 _ _ _ (same_new ht2 _ _ _ upd_same)⟩, trivial⟩
  refine iteN (by simp [c]) ?_
  have lt : lo < hi := by omega
  refine ⟨_, rfl, _, _, rfl, rfl, _, rfl, _, _, rfl, ⟨by omega, by omega, by omega, by (first | exact Int.lt_of_le_of_lt (by with_reducible assumption) (by decide +kernel) | omega)⟩, comp_range (n := (hi - (lo + 1)).toNat) (fun i zs σ H2 => Same H H2 ∧ (∃ v, σ = [v, some (.ref st), some (.int n)]) ∧ Two (Ent H2) zs ((rangeI (lo + 1) i).map (ent p q lo hi n)))
    (small1000 (by omega)) ⟨Same.refl _, ⟨_, rfl⟩, trivial⟩ (by rintro i zs σ H2 ⟨_, _, e⟩; rw [e.length, List.length_map, rangeI_len]; exact Nat.le_refl _) ?_ ?_⟩
  · rintro i zs σ H2 hi' ⟨s2, ⟨v, rfl⟩, tw⟩
    refine ⟨_, rfl, _, rfl, _, rfl, _, rfl, _, _, rfl, rfl, st, p, q, lo + 1 + i - n, rfl, s2 _ _ hst, hs, by omega, by omega, fun H3 r s3 hr' => ⟨by show 2 ≤ sizeLine; decide, fun t ht => ?_⟩⟩
    refine ⟨s2.trans (s3.trans (same_new ht _)), ⟨_, rfl⟩, ?_⟩
    rw [rangeI_succ, List.map_append]
    refine Two.append (tab_ts (.of (s3.trans (same_new ht _))) tw) ⟨⟨t, r, rfl, upd_same, ?_⟩, trivial⟩
    have hne : ¬ (lo + 1 + (i : Int) = lo ∨ lo + 1 + (i : Int) = hi) := by omega
    have hr2 := same_new ht (.tup [.int (lo + 1 + i), .ref r]) _ _ hr'
    unfold ent eN eD
    rw [if_neg hne]
    exact hr2
  rintro bs σ H2 ⟨s2, _, tw⟩ lb hlb
  have g2 : Same H (upd H2 lb (.lst bs)) := s2.trans (same_new hlb _)
  have hb2 : upd H2 lb (.lst bs) lb = some (.lst bs) := upd_same
  have tw2 := tab_ts (.of (same_new hlb (.lst bs))) tw
  have hbl : bs.length ≤ 1000 := by rw [tw.length, List.length_map, rangeI_len]; omega
  generalize upd H2 lb (.lst bs) = H3 at g2 hb2 tw2 ⊢
  -- the lowest rung
  refine ⟨_, rfl, _, rfl, _, rfl, _, rfl, _, _, rfl, rfl, st, p, q, n - lo, rfl, g2 _ _ hst, hs, by omega, by omega, fun H4 r4 s4 h4 => ⟨by show 2 ≤ sizeLine; decide, fun t4 ht4 => ?_⟩⟩
  have g4 := s4.trans (same_new ht4 (.tup [.int lo, .ref r4]))
  have e4 : Ent (upd H4 t4 (.tup [.int lo, .ref r4])) (.ref t4) (ent p q lo hi n lo) := by
    refine ⟨t4, r4, rfl, upd_same, same_new ht4 _ _ _ ?_⟩
    have ek : (lo - n).natAbs = (n - lo).toNat := abs_sub n0
    have c0 : 0 ≤ n - lo := by (first | exact Int.sub_nonneg_of_le (by with_reducible assumption) | omega)
    unfold tN tD at h4
    simp only [if_pos c0] at h4
    unfold ent eN eD
    rw [if_pos (Or.inl rfl), ek]
    exact h4
  generalize upd H4 t4 (.tup [.int lo, .ref r4]) = H5 at g4 e4 ⊢
  -- the highest
  refine ⟨_, rfl, _, rfl, _, rfl, _, rfl, _, _, rfl, rfl, st, p, q, hi - n, rfl, g4 _ _ (g2 _ _ hst), hs, by omega, by omega, fun H6 r6 s6 h6 => ⟨by show 2 ≤ sizeLine; decide, fun t6 ht6 => ?_⟩⟩
  have g6 := s6.trans (same_new ht6 (.tup [.int hi, .ref r6]))
  have e6 : Ent (upd H6 t6 (.tup [.int hi, .ref r6])) (.ref t6) (ent p q lo hi n hi) := by
    refine ⟨t6, r6, rfl, upd_same, same_new ht6 _ _ _ ?_⟩
    have ek : (hi - n).natAbs = (hi - n).toNat := abs_nn (Int.sub_nonneg_of_le n1)
    have c0 : 0 ≤ hi - n := by (first | exact Int.sub_nonneg_of_le (by with_reducible assumption) | omega)
    unfold tN tD at h6
    simp only [if_pos c0] at h6
    unfold ent eN eD
    rw [if_pos (Or.inr rfl), ek]
    exact h6
  generalize upd H6 t6 (.tup [.int hi, .ref r6]) = H7 at g6 e6 ⊢
  -- all of them
  refine ⟨_, rfl, by show 1 ≤ sizeLine; decide, fun l1 hl1 => ?_⟩
  have hb7 : H7 lb = some (.lst bs) := g6 _ _ (g4 _ _ hb2)
  refine ⟨_, rfl, l1, lb, _, _, rfl, rfl, upd_same, same_new hl1 _ _ _ hb7, Nat.le_of_lt (small1000 (by show 1 + bs.length ≤ 1000; rw [tw.length, List.length_map, rangeI_len]; omega)), fun l2 hl2 => ?_⟩
  refine ⟨_, rfl, by show 1 ≤ sizeLine; decide, fun l3 hl3 => ?_⟩
  refine ⟨l2, l3, _, _, rfl, rfl, same_new hl3 _ _ _ upd_same, upd_same, Nat.le_of_lt (small1000 (by rw [List.length_append]; show 1 + bs.length + 1 ≤ 1000; rw [tw.length, List.length_map, rangeI_len]; omega)), fun l4 hl4 => ?_⟩
  refine ⟨l4, _, rfl, .inl ⟨SqL.of upd_same, fun u hu' => ?_⟩⟩
  have gg := (same_new hl1 (.lst [.ref t4])).trans ((same_new hl2 _).trans ((same_new hl3 _).trans ((same_new hl4 _).trans (same_new hu' (.tup ([V.ref t4] ++ bs ++ [V.ref t6]))))))
  refine k _ u _ (g2.trans (g4.trans (g6.trans gg))) upd_same ?_
  unfold tableI
  rw [if_neg c, range_parts lt, List.map_append, List.map_append]
  refine Two.append (Two.append ⟨e4.ts ((TS.of g6).trans (TS.of gg)), trivial⟩ (tab_ts ((TS.of (g4.trans g6)).trans (TS.of gg)) tw2)) ⟨e6.ts (TS.of gg), trivial⟩
end
end Mine
namespace Mine
open PySem L2
section
variable {P : Program} {w : World} {K : PySem.W.Frag} {mg : Str → Option Value} {base : Heap}
theorem nd_Merg1 : (["answer", "totals"] : List Str).Nodup := by decide +kernel
theorem nd_Merg2 : (["answer", "totals"] : List Str).Nodup := by decide +kernel
theorem nd_Merg3 : (["answer", "totals"] : List Str).Nodup := by decide +kernel
theorem nd_Merg4 : (["answer", "totals"] : List Str).Nodup := by decide +kernel
theorem nd_Merg5 : (["answer", "totals"] : List Str).Nodup := by decide +kernel
theorem nd_Merg6 : (["answer", "totals"] : List Str).Nodup := by decide +kernel
theorem scMerg : FnScope ["pairs", "totals", "pair", "answers"] ["pairs"] (defScope sMerg) := ⟨rfl, rfl, rfl, by decide +kernel, rfl, by decide +kernel, by decide +kernel⟩
theorem ok_Merg {f : Addr} {fd : FuncData} (F : Fun K "merged" "merged" sMerg f fd)
    {f_Add : Addr} {d_Add : FuncData} (G_Add : FnOk P w K mg base CX0 3 f_Add d_Add ["one", "other"] spAdd) (b_Add : Binds K d_Add ["one", "other"] []) (k_Add : PySem.W.keepIn K (.ref f_Add) = true) (m_Add : mg "added" = some (.ref f_Add))
    (m_sorted : mg "sorted" = none) (m_tuple : mg "tuple" = none) :
    FnOk P w K mg base CX0 4 f fd ["pairs"] spMergedK := by
  refine F.ok scMerg (fun vs H Q E h => ?_) (fun cdv A outer s H vs Q E hr h => ?_)
  · obtain ⟨l, us, es, lo, rfl, _⟩ := h
    rfl
  obtain ⟨l, us, es, lo, rfl, hl, tw, hlen, inr, sf, k⟩ := h
  have hu := hu_of hr
  have hr1 : Room 1 _ := hr.mono (by decide)
  have hr3 : Room 3 _ := hr.mono (by decide)
  refine ⟨_, (pss_cons (ps_set (i := 1) scMerg.nd rfl (Or.inr rfl) pe_dnewK)
    (pss_cons (ps_for PassesOwn.never rfl (pi_list (pv 0)) (pg_name (i := 2) scMerg.nd rfl (Or.inl rfl))
    (pss_one (ps_dput hu (pv 1) (pe_ix ix_tup (pv 2) pe_int (fun _ _ => rfl)) (pe_call G_Add hr3 (by rfl) m_Add k_Add b_Add .nil pass0 (pa_cons (pe_dget2 hu (pv 1) (pe_ix ix_tup (pv 2) pe_int (fun _ _ => rfl)) (pe_tup (pa_cons pe_int (pa_cons pe_int pa_nil))) ⟨rfl, rfl, rfl, rfl⟩) (pa_cons (pe_ix ix_tup (pv 2) pe_int (fun _ _ => rfl)) pa_nil))) rfl)))
    (pss_cons (ps_set (i := 3) scMerg.nd rfl (Or.inl rfl) (pe_callB call_sortI (by rfl) m_sorted PyProof.Rows.boot_sorted (pa_cons (pe_comp ["answer", "totals"] [none, some 1] (pi_dict (pv 1)) (fun _ _ _ _ => (pg_name (i := 0) (nd_Merg4) rfl (Or.inl rfl))) (fun _ _ _ _ => (pf_one (pt_cmpR (neDK K hr1) (pe_dget hu (pv 1) (pv 0) (fun _ _ => rfl)) (pe_tup (pa_cons pe_int (pa_cons pe_int pa_nil))) (nomark _)))) (fun _ _ _ _ => (pv 0))) pa_nil)))
    (pss_one (ps_ret (pe_callTy call_tuple_of (by rfl) m_tuple PyProof.Rows.boot_tuple (pa_cons (pe_comp ["answer", "totals"] [none, some 1] (pi_list (pv 3)) (fun _ _ _ _ => (pg_name (i := 0) (nd_Merg6) rfl (Or.inl rfl))) (fun _ _ _ _ => pf_nil) (fun _ _ _ _ => (pe_tup (pa_cons (pv 0) (pa_cons (pe_dget hu (pv 1) (pv 0) (fun _ _ => rfl)) pa_nil))))) pa_nil))))))), ?_⟩
  refine fun d hd => ?_
  refine ⟨_, rfl, l, rfl, ⟨_, SqL.of (same_new hd _ _ _ hl)⟩, for_listA (K := K) (a := l) (xs := us) (fun i σ H1 => ∃ kvs v2, σ = [some (.ref l), some (.ref d), v2, none] ∧ Same H H1 ∧ H1 d = some (.dK kvs) ∧ KvT H1 kvs ((es.take i).foldl stepT fun _ => none) ∧ kvs.length ≤ i)
    ⟨[], _, rfl, same_new hd _, upd_same, KvT.nil, Nat.le_refl _⟩ (by rintro i σ H1 _ ⟨_, _, _, e, _⟩; exact SqL.of (e _ _ hl)) ?_ ?_⟩
  · rintro D' i v σ H1 hv ⟨kvs, v2, rfl, s1, hd1, kt, hkl⟩
    obtain ⟨e, he, p, q, rfl, hp, hq⟩ := tw.at hv
    have hi : i < es.length := (List.getElem?_eq_some_iff.mp he).1
    have sa := safe_at sf he
    rw [fold_snoc he]
    generalize (es.take i).foldl stepT (fun _ => none) = T at kt sa ⊢
    refine ⟨_, rfl, d, rfl, .inl ⟨kvs, .inl hd1⟩, _, rfl, p, _, _, _, rfl, rfl, SqT.of (s1 _ _ hp), rfl, ?_⟩
    refine ⟨by show 2 ≤ sizeLine; decide, fun t0 ht0 => ⟨_, DGet.k (k := Sum.inl e.1) (same_new ht0 _ _ _ hd1), ?_⟩⟩
    have s2 := s1.trans (same_new ht0 (.tup [.int 0, .int 1]))
    have hd2 := same_new ht0 (.tup [.int 0, .int 1]) _ _ hd1
    have kt2 := kt.ts (.of (same_new ht0 (.tup [.int 0, .int 1])))
    have h01 : TupAt (upd H1 t0 (.tup [.int 0, .int 1])) t0 0 1 := upd_same
    generalize upd H1 t0 (.tup [.int 0, .int 1]) = H2 at s2 hd2 kt2 h01 ⊢
    obtain ⟨g, hg, tg⟩ : ∃ g, (valV kvs (Sum.inl e.1)).getD (.ref t0) = .ref g ∧ TupAt H2 g ((T e.1).getD (0, 1)).1 ((T e.1).getD (0, 1)).2 := by
      cases c : T e.1 with
      | none => exact ⟨t0, by rw [kt2.no _ c]; rfl, h01⟩
      | some u =>
        obtain ⟨q', e1, e2⟩ := kt2.val _ u c
        exact ⟨q', by rw [e1]; rfl, e2⟩
    refine ⟨_, rfl, p, _, _, _, rfl, rfl, SqT.of (s2 _ _ hp), rfl, ?_⟩
    refine ⟨g, q, _, e.2, by rw [hg]; rfl, tg, s2 _ _ hq, sa.1, sa.2, fun r hr' => ?_⟩
    have s3 := s2.trans (same_new hr' (.tup [.int (addF ((T e.1).getD (0, 1)) e.2).1, .int (addF ((T e.1).getD (0, 1)) e.2).2]))
    have hd3 := same_new hr' (.tup [.int (addF ((T e.1).getD (0, 1)) e.2).1, .int (addF ((T e.1).getD (0, 1)) e.2).2]) _ _ hd2
    have kt3 := kt2.ts (.of (same_new hr' (.tup [.int (addF ((T e.1).getD (0, 1)) e.2).1, .int (addF ((T e.1).getD (0, 1)) e.2).2])))
    have hr3 : TupAt (upd H2 r (.tup [.int (addF ((T e.1).getD (0, 1)) e.2).1, .int (addF ((T e.1).getD (0, 1)) e.2).2])) r (addF ((T e.1).getD (0, 1)) e.2).1 (addF ((T e.1).getD (0, 1)) e.2).2 := upd_same
    generalize upd H2 r (.tup [.int (addF ((T e.1).getD (0, 1)) e.2).1, .int (addF ((T e.1).getD (0, 1)) e.2).2]) = H3 at s3 hd3 kt3 hr3 ⊢
    refine ⟨_, rfl, _, rfl, p, _, _, _, rfl, rfl, SqT.of (s3 _ _ hp), rfl, d, _, rfl, .inl ⟨kvs, Sum.inl e.1, hd3, rfl, small1000 (by omega), rfl⟩, ?_⟩
    have tsd : TS H3 (upd H3 d (.dK (putK kvs (Sum.inl e.1) (.ref r)))) := fun b o q => by
      rw [upd_ne (fun z => by rw [z, hd3] at q; cases q)]
      exact q
    exact ⟨_, _, rfl, same_any s3 hd, upd_same, (kt3.put hr3).ts tsd, Nat.le_trans putK_len (by omega)⟩
  · rintro σ H1 ⟨kvs, v2, rfl, s1, hd1, kt, hkl⟩
    have ul := tw.length
    rw [ul, List.take_length] at kt
    have eT : es.foldl stepT (fun _ => none) = totF es := rfl
    rw [eT] at kt
    generalize hT : totF es = T at kt
    have kk := k
    rw [hT] at kk
    refine ⟨_, rfl, d, kvs, rfl, hd1, fun o => ?_⟩
    have s2 : Same H (upd H1 d (.frz o (.dK kvs))) := same_any s1 hd
    have hd2 : upd H1 d (.frz o (.dK kvs)) d = some (.frz o (.dK kvs)) := upd_same
    have tsd : TS H1 (upd H1 d (.frz o (.dK kvs))) := fun b u q => by
      rw [upd_ne (fun z => by rw [z, hd1] at q; cases q)]
      exact q
    have kt2 := kt.ts tsd
    generalize upd H1 d (.frz o (.dK kvs)) = H2 at s2 hd2 kt2 ⊢
    refine comp_dict (o := o) (kvs := kvs) (fun i zs σ H3 => Same H2 H3 ∧ (∃ v, σ = [v, some (.ref d)]) ∧ zs = (liveK (kvs.take i) T).map V.int) (small1000 (by omega)) ⟨Same.refl _, ⟨_, rfl⟩, rfl⟩
      (fun i zs σ H3 ⟨_, _, e⟩ => by
        rw [e, List.length_map]
        exact Nat.le_trans live_len (by rw [List.length_take]; (first | with_reducible exact Nat.min_le_left _ _ | omega))) (by rintro i zs σ H3 _ ⟨e, _⟩; exact e _ _ hd2) ?_ ?_
    · rintro i ky v zs σ H3 hv ⟨s3, ⟨v', rfl⟩, rfl⟩
      obtain ⟨ka, hka⟩ := kt2.inl _ (List.mem_of_getElem? hv)
      have hka : ky = Sum.inl ka := hka
      subst hka
      have hva := val_at kt2.nd hv
      obtain ⟨u, hu'⟩ : ∃ u, T ka = some u := by
        cases c : T ka with
        | none => rw [kt2.no _ c] at hva; cases hva
        | some u => exact ⟨u, rfl⟩
      obtain ⟨q, e1, e2⟩ := kt2.val _ u hu'
      refine ⟨_, rfl, _, rfl, d, .ref q, rfl, by rw [← e1]; exact DGet.f (k := Sum.inl ka) (s3 _ _ hd2), ?_⟩
      refine ⟨by show 2 ≤ sizeLine; decide, fun t0 ht0 => ?_⟩
      refine ⟨.tuple [.int u.1, .int u.2], .tuple [.int 0, .int 1], ⟨q, _, rfl, SqT.of (same_new ht0 _ _ _ (s3 _ _ e2)), _, _, rfl, rfl, _, _, rfl, rfl, rfl⟩, ⟨t0, _, rfl, SqT.of upd_same, _, _, rfl, rfl, _, _, rfl, rfl, rfl⟩, rfl, rfl, rfl, _, rfl, ?_⟩
      rw [same_pair]
      rw [live_snoc hv, List.map_append]
      have s4 := s3.trans (same_new ht0 (.tup [.int 0, .int 1]))
      by_cases c : u = (0, 1)
      · refine iteN ?_ ⟨s4, ⟨_, rfl⟩, ?_⟩
        · simp [c]
        · rw [if_pos (by rw [hu', c])]
          simp
      · refine iteP ?_ ⟨_, rfl, s4, ⟨_, rfl⟩, ?_⟩
        · simp [c]
        · rw [if_neg (by rw [hu']; exact fun z => c (Option.some.inj z))]
          rfl
    · rintro zs σ H3 ⟨s3, _, rfl⟩ l3 hl3
      rw [List.take_length]
      have lk : (liveK kvs T).length ≤ 20 := nodup_len (lo := lo) (live_nodup kt2.nd) fun x hx => by
        obtain ⟨u, hu', _⟩ := (live_mem kt2).mp hx
        rw [← hT] at hu'
        obtain ⟨e, he, rfl⟩ := tot_key hu'
        exact inr e he
      refine ⟨l3, liveK kvs T, rfl, SqL.of upd_same, by (first | exact Nat.lt_of_le_of_lt (by with_reducible assumption) (by decide +kernel) | omega), fun ks pm pw l4 hl4 => ?_⟩
      have s4 := s3.trans ((same_new hl3 (.lst ((liveK kvs T).map V.int))).trans (same_new hl4 (.lst (ks.map V.int))))
      have hl5 : upd (upd H3 l3 (.lst ((liveK kvs T).map V.int))) l4 (.lst (ks.map V.int)) l4 = some (.lst (ks.map V.int)) := upd_same
      generalize upd (upd H3 l3 (.lst ((liveK kvs T).map V.int))) l4 (.lst (ks.map V.int)) = H4 at s4 hl5 ⊢
      have kl : ks.length ≤ 60 := by rw [pm.length_eq]; (first | exact Nat.le_trans (by with_reducible assumption) (by decide +kernel) | omega)
      refine ⟨_, rfl, l4, rfl, ⟨_, SqL.of hl5⟩, comp_list (K := K) (a := l4) (xs := ks.map V.int) (fun i zs σ H5 => Same H4 H5 ∧ (∃ v, σ = [v, some (.ref d)]) ∧ Two (Ent H5) zs (tabOf T (ks.take i)))
        (small1000 (by rw [List.length_map]; (first | exact Nat.le_trans (by with_reducible assumption) (by decide +kernel) | omega))) ⟨Same.refl _, ⟨_, rfl⟩, trivial⟩ (fun i zs σ H5 ⟨_, _, e⟩ => by
          rw [e.length]
          unfold tabOf
          rw [List.length_map, List.length_take]
          (first | with_reducible exact Nat.min_le_left _ _ | omega)) (by rintro i zs σ H5 _ ⟨e, _⟩; exact SqL.of (e _ _ hl5)) ?_ ?_⟩
      · rintro i y zs σ H5 hy ⟨s5, ⟨v, rfl⟩, tw5⟩
        obtain ⟨ka, rfl, hka⟩ := ints_at hy
        have mem : ka ∈ liveK kvs T := pm.mem_iff.mp (List.mem_of_getElem? hka)
        obtain ⟨u, hu', _⟩ := (live_mem kt2).mp mem
        obtain ⟨q, e1, e2⟩ := kt2.val _ u hu'
        refine ⟨_, rfl, _, rfl, _, rfl, d, .ref q, rfl, by rw [← e1]; exact DGet.f (k := Sum.inl ka) (s5 _ _ (s4 _ _ hd2)), ?_⟩
        refine ⟨by show 2 ≤ sizeLine; decide, fun t ht => ⟨s5.trans (same_new ht _), ⟨_, rfl⟩, ?_⟩⟩
        rw [tab_snoc hka]
        refine Two.append (tab_ts (.of (same_new ht _)) tw5) ⟨⟨t, q, rfl, upd_same, ?_⟩, trivial⟩
        rw [hu']
        exact same_new ht _ _ _ (s5 _ _ (s4 _ _ e2))
      · rintro zs σ H5 ⟨s5, _, tw5⟩ l6 hl6
        rw [List.length_map, List.take_length] at tw5
        refine ⟨l6, _, rfl, .inl ⟨SqL.of upd_same, fun u hu' => ?_⟩⟩
        have s6 := (same_new hl6 (.lst zs)).trans (same_new hu' (.tup zs))
        refine kk _ u zs ks (s2.trans (s4.trans (s5.trans s6))) upd_same (strict_of pw (pm.nodup_iff.mpr (live_nodup kt2.nd))) (fun ka => ?_) (tab_ts (.of s6) tw5)
        rw [pm.mem_iff]
        exact live_mem kt2
end
end Mine
namespace Mine
open PySem L2
section
variable {P : Program} {w : World} {K : PySem.W.Frag} {mg : Str → Option Value} {base : Heap}
theorem scMov : FnScope ["a", "b", "at_end", "stays", "moved"] ["a", "b", "at_end"] (defScope sMov) := ⟨rfl, rfl, rfl, by decide +kernel, rfl, by decide +kernel, by decide +kernel⟩
theorem ok_Mov {f : Addr} {fd : FuncData} (F : Fun K "share_moved" "share_moved" sMov f fd)
    {cO : Addr} (m_ONE : mg "ONE" = some (.ref cO)) (hO : ∀ H, SqT K H cO [.int 1, .int 1])
    {f_Minus : Addr} {d_Minus : FuncData} (G_Minus : FnOk P w K mg base CX0 3 f_Minus d_Minus ["one", "other"] (spMinusK K)) (b_Minus : Binds K d_Minus ["one", "other"] []) (k_Minus : PySem.W.keepIn K (.ref f_Minus) = true) (m_Minus : mg "minus" = some (.ref f_Minus))
    {f_Divd : Addr} {d_Divd : FuncData} (G_Divd : FnOk P w K mg base CX0 3 f_Divd d_Divd ["one", "other"] spDiv) (b_Divd : Binds K d_Divd ["one", "other"] []) (k_Divd : PySem.W.keepIn K (.ref f_Divd) = true) (m_Divd : mg "divided" = some (.ref f_Divd))
    {f_Times : Addr} {d_Times : FuncData} (G_Times : FnOk P w K mg base CX0 3 f_Times d_Times ["one", "other"] spTimes) (b_Times : Binds K d_Times ["one", "other"] []) (k_Times : PySem.W.keepIn K (.ref f_Times) = true) (m_Times : mg "times" = some (.ref f_Times))
     :
    FnOk P w K mg base CX0 4 f fd ["a", "b", "at_end"] spMov := by
  refine F.ok scMov (fun vs H Q E h => ?_) (fun cdv A outer s H vs Q E hr h => ?_)
  · obtain ⟨p, q, a, b, e, rfl, _⟩ := h
    rfl
  obtain ⟨p, q, a, b, e, rfl, hp, hq, ab, k⟩ := h
  have hu := hu_of hr
  have hr1 : Room 1 _ := hr.mono (by decide)
  have hr3 : Room 3 _ := hr.mono (by decide)
  refine ⟨_, (pss_cons (ps_set (i := 3) scMov.nd rfl (Or.inl rfl) (pe_call G_Minus hr3 (by rfl) m_Minus k_Minus b_Minus .nil pass0 (pa_cons (pe_glob (v := .ref cO) (by rfl) m_ONE rfl) (pa_cons (pv 0) pa_nil))))
    (pss_cons (ps_set (i := 4) scMov.nd rfl (Or.inl rfl) (pe_call G_Divd hr3 (by rfl) m_Divd k_Divd b_Divd .nil pass0 (pa_cons (pe_call G_Minus hr3 (by rfl) m_Minus k_Minus b_Minus .nil pass0 (pa_cons (pe_glob (v := .ref cO) (by rfl) m_ONE rfl) (pa_cons (pe_call G_Divd hr3 (by rfl) m_Divd k_Divd b_Divd .nil pass0 (pa_cons (pv 0) (pa_cons (pv 1) pa_nil))) pa_nil))) (pa_cons (pv 3) pa_nil))))
    (pss_cons (ps_if (pt_val (pv 2)) (pss_one (ps_ret (pv 4))) pss_nil)
    (pss_one (ps_ret (pe_call G_Times hr3 (by rfl) m_Times k_Times b_Times .nil pass0 (pa_cons (pv 4) (pa_cons (pe_call G_Divd hr3 (by rfl) m_Divd k_Divd b_Divd .nil pass0 (pa_cons (pe_call G_Minus hr3 (by rfl) m_Minus k_Minus b_Minus .nil pass0 (pa_cons (pe_glob (v := .ref cO) (by rfl) m_ONE rfl) (pa_cons (pe_call G_Times hr3 (by rfl) m_Times k_Times b_Times .nil pass0 (pa_cons (pv 0) (pa_cons (pv 1) pa_nil))) pa_nil))) (pa_cons (pv 3) pa_nil))) pa_nil)))))))), ?_⟩
  have f := mv_facts ab
  obtain ⟨a1, a2, a3, b1, b2, b3, x1, x2, y1, y2, z1, z2, u1, u2⟩ := id f
  have one : B72 1 := b72_of (by decide) (by decide)
  have fa : Fr72 ((a.1 : Int), (a.2 : Int)) := ⟨b72_of (by show (0 : Int) ≤ a.1; (first | with_reducible exact Int.natCast_nonneg _ | omega)) (by show (a.1 : Int) ≤ _; omega), b72_of (by show (0 : Int) ≤ a.2; (first | with_reducible exact Int.natCast_nonneg _ | omega)) (by show (a.2 : Int) ≤ _; (first | exact Int.le_trans (by with_reducible assumption) (by decide +kernel) | omega)), by show (1 : Int) ≤ a.2; omega⟩
  have fb : Fr72 ((b.1 : Int), (b.2 : Int)) := ⟨b72_of (by show (0 : Int) ≤ b.1; (first | with_reducible exact Int.natCast_nonneg _ | omega)) (by show (b.1 : Int) ≤ _; omega), b72_of (by show (0 : Int) ≤ b.2; (first | with_reducible exact Int.natCast_nonneg _ | omega)) (by show (b.2 : Int) ≤ _; (first | exact Int.le_trans (by with_reducible assumption) (by decide +kernel) | omega)), by show (1 : Int) ≤ b.2; omega⟩
  -- what stays
  refine ⟨_, rfl, cO, p, 1, 1, a.1, a.2, rfl, hO _, hp, one, one, fa.1, fa.2.1, by decide, fa.2.2, by omega, fun r1 hr1' => ?_⟩
  have s1 := same_new hr1' (.tup (lowI (1 * (a.2 : Int) - a.1 * 1) (1 * a.2)))
  have h1 : FrAt (upd H r1 (.tup (lowI (1 * (a.2 : Int) - a.1 * 1) (1 * a.2)))) r1 (lowP (1 * (a.2 : Int) - a.1 * 1) (1 * a.2)) := upd_same
  generalize upd H r1 (.tup (lowI (1 * (a.2 : Int) - a.1 * 1) (1 * a.2))) = H1 at s1 h1 ⊢
  rw [Int.one_mul, Int.mul_one] at h1
  have f1 : Fr72 (lowP ((a.2 : Int) - a.1) a.2) := lowP_fr (by omega) (by omega) (by omega) (by (first | exact Int.le_trans (by with_reducible assumption) (by decide +kernel) | omega))
  have g1 : 1 ≤ (lowP ((a.2 : Int) - a.1) a.2).1 := low_pos' (by omega) (by omega)
  -- what is moved
  refine ⟨_, rfl, _, rfl, p, q, (a.1, a.2), (b.1, b.2), rfl, s1 _ _ hp, s1 _ _ hq, fa, fb, b1, fun r2 hr2' => ?_⟩
  have s2 := s1.trans (same_new hr2' (.tup (lowI ((a.1 : Int) * b.2) (a.2 * b.1))))
  have h12 := same_new hr2' (.tup (lowI ((a.1 : Int) * b.2) (a.2 * b.1))) _ _ h1
  have h2 : FrAt (upd H1 r2 (.tup (lowI ((a.1 : Int) * b.2) (a.2 * b.1)))) r2 (lowP ((a.1 : Int) * b.2) (a.2 * b.1)) := upd_same
  have f2 : Fr72 (lowP ((a.1 : Int) * b.2) (a.2 * b.1)) := lowP_fr (by (first | with_reducible assumption | omega)) (by omega) (by (first | with_reducible assumption | omega)) (by (first | exact Int.le_trans (by with_reducible assumption) (by decide +kernel) | omega))
  generalize upd H1 r2 (.tup (lowI ((a.1 : Int) * b.2) (a.2 * b.1))) = H2 at s2 h12 h2 ⊢
  have le2 : (lowP ((a.1 : Int) * b.2) (a.2 * b.1)).1 ≤ (lowP ((a.1 : Int) * b.2) (a.2 * b.1)).2 := low_le y2 x1
  refine ⟨cO, r2, 1, 1, _, _, rfl, hO _, h2, one, one, f2.1, f2.2.1, by decide, f2.2.2, by omega, fun r3 hr3' => ?_⟩
  have e3 := sub_low (a := (a.1 : Int) * b.2) (c := (a.2 : Int) * b.1 - a.1 * b.2) (u := (a.2 : Int) * b.1) y1 (by (first | exact Int.sub_nonneg_of_le (by with_reducible assumption) | omega)) x1 (by omega)
  have h3 := (show FrAt (upd H2 r3 (.tup (lowI (1 * (lowP ((a.1 : Int) * b.2) (a.2 * b.1)).2 - (lowP ((a.1 : Int) * b.2) (a.2 * b.1)).1 * 1) (1 * (lowP ((a.1 : Int) * b.2) (a.2 * b.1)).2)))) r3 (lowP (1 * (lowP ((a.1 : Int) * b.2) (a.2 * b.1)).2 - (lowP ((a.1 : Int) * b.2) (a.2 * b.1)).1 * 1) (1 * (lowP ((a.1 : Int) * b.2) (a.2 * b.1)).2)) from upd_same)
  rw [e3] at h3
  have s3 := s2.trans (same_new hr3' (.tup (lowI (1 * (lowP ((a.1 : Int) * b.2) (a.2 * b.1)).2 - (lowP ((a.1 : Int) * b.2) (a.2 * b.1)).1 * 1) (1 * (lowP ((a.1 : Int) * b.2) (a.2 * b.1)).2))))
  have h13 := same_new hr3' (.tup (lowI (1 * (lowP ((a.1 : Int) * b.2) (a.2 * b.1)).2 - (lowP ((a.1 : Int) * b.2) (a.2 * b.1)).1 * 1) (1 * (lowP ((a.1 : Int) * b.2) (a.2 * b.1)).2))) _ _ h12
  generalize upd H2 r3 (.tup (lowI (1 * (lowP ((a.1 : Int) * b.2) (a.2 * b.1)).2 - (lowP ((a.1 : Int) * b.2) (a.2 * b.1)).1 * 1) (1 * (lowP ((a.1 : Int) * b.2) (a.2 * b.1)).2))) = H3 at s3 h13 h3 ⊢
  have f3 : Fr72 (lowP ((a.2 : Int) * b.1 - a.1 * b.2) (a.2 * b.1)) := lowP_fr (by (first | exact Int.sub_nonneg_of_le (by with_reducible assumption) | omega)) (by omega) (by (first | with_reducible assumption | omega)) (by (first | exact Int.le_trans (by with_reducible assumption) (by decide +kernel) | omega))
  refine ⟨_, rfl, r3, r1, _, _, rfl, h3, h13, f3, f1, g1, fun r4 hr4' => ?_⟩
  have e4 := div_low (a := (a.2 : Int) * b.1 - a.1 * b.2) (b := (a.2 : Int) * b.1) (c := (a.2 : Int) - a.1) (d := (a.2 : Int)) (by (first | exact Int.sub_nonneg_of_le (by with_reducible assumption) | omega)) x1 (by omega) (by omega)
  rw [mv_end ab] at e4
  generalize lowP ((a.2 : Int) * b.1 - a.1 * b.2) (a.2 * b.1) = v3 at e4 h3 f3 ⊢
  generalize hv1 : lowP ((a.2 : Int) - a.1) a.2 = v1 at e4 h13 f1 g1 ⊢
  have h4 := (show FrAt (upd H3 r4 (.tup (lowI (v3.1 * v1.2) (v3.2 * v1.1)))) r4 (lowP (v3.1 * v1.2) (v3.2 * v1.1)) from upd_same)
  rw [e4] at h4
  have s4 := s3.trans (same_new hr4' (.tup (lowI (v3.1 * v1.2) (v3.2 * v1.1))))
  have h14 := same_new hr4' (.tup (lowI (v3.1 * v1.2) (v3.2 * v1.1))) _ _ h13
  generalize upd H3 r4 (.tup (lowI (v3.1 * v1.2) (v3.2 * v1.1))) = H4 at s4 h14 h4 ⊢
  refine ⟨_, rfl, _, rfl, ?_⟩
  cases e with
  | true =>
    refine iteP rfl ?_
    exact ⟨_, rfl, k _ r4 s4 h4⟩
  | false =>
    refine iteF ?_
    refine ⟨_, rfl, ?_⟩
    refine ⟨_, rfl, _, rfl, p, q, a.1, a.2, b.1, b.2, rfl, s4 _ _ hp, s4 _ _ hq, fa.1, fa.2.1, fb.1, fb.2.1, fa.2.2, fb.2.2, fun r5 hr5' => ?_⟩
    have s5 := s4.trans (same_new hr5' (.tup (lowI ((a.1 : Int) * b.1) (a.2 * b.2))))
    have h15 := same_new hr5' (.tup (lowI ((a.1 : Int) * b.1) (a.2 * b.2))) _ _ h14
    have h45 := same_new hr5' (.tup (lowI ((a.1 : Int) * b.1) (a.2 * b.2))) _ _ h4
    have h5 : FrAt (upd H4 r5 (.tup (lowI ((a.1 : Int) * b.1) (a.2 * b.2)))) r5 (lowP ((a.1 : Int) * b.1) (a.2 * b.2)) := upd_same
    have f5 : Fr72 (lowP ((a.1 : Int) * b.1) (a.2 * b.2)) := lowP_fr (by (first | with_reducible assumption | omega)) (by omega) (by (first | with_reducible assumption | omega)) (by (first | exact Int.le_trans (by with_reducible assumption) (by decide +kernel) | omega))
    have le5 : (lowP ((a.1 : Int) * b.1) (a.2 * b.2)).1 ≤ (lowP ((a.1 : Int) * b.1) (a.2 * b.2)).2 := low_le u2 z1
    have e6 := sub_low (a := (a.1 : Int) * b.1) (c := (a.2 : Int) * b.2 - a.1 * b.1) (u := (a.2 : Int) * b.2) u1 (by (first | exact Int.sub_nonneg_of_le (by with_reducible assumption) | omega)) z1 (by omega)
    generalize upd H4 r5 (.tup (lowI ((a.1 : Int) * b.1) (a.2 * b.2))) = H5 at s5 h15 h45 h5 ⊢
    generalize lowP ((a.1 : Int) * b.1) (a.2 * b.2) = v5 at h5 f5 le5 e6 ⊢
    refine ⟨cO, r5, 1, 1, _, _, rfl, hO _, h5, one, one, f5.1, f5.2.1, by decide, f5.2.2, by omega, fun r6 hr6' => ?_⟩
    have h6 := (show FrAt (upd H5 r6 (.tup (lowI (1 * v5.2 - v5.1 * 1) (1 * v5.2)))) r6 (lowP (1 * v5.2 - v5.1 * 1) (1 * v5.2)) from upd_same)
    rw [e6] at h6
    have s6 := s5.trans (same_new hr6' (.tup (lowI (1 * v5.2 - v5.1 * 1) (1 * v5.2))))
    have h16 := same_new hr6' (.tup (lowI (1 * v5.2 - v5.1 * 1) (1 * v5.2))) _ _ h15
    have h46 := same_new hr6' (.tup (lowI (1 * v5.2 - v5.1 * 1) (1 * v5.2))) _ _ h45
    generalize upd H5 r6 (.tup (lowI (1 * v5.2 - v5.1 * 1) (1 * v5.2))) = H6 at s6 h16 h46 h6 ⊢
    have f6 : Fr72 (lowP ((a.2 : Int) * b.2 - a.1 * b.1) (a.2 * b.2)) := lowP_fr (by (first | exact Int.sub_nonneg_of_le (by with_reducible assumption) | omega)) (by omega) (by (first | with_reducible assumption | omega)) (by (first | exact Int.le_trans (by with_reducible assumption) (by decide +kernel) | omega))
    have e7 := div_low (a := (a.2 : Int) * b.2 - a.1 * b.1) (b := (a.2 : Int) * b.2) (c := (a.2 : Int) - a.1) (d := (a.2 : Int)) (by (first | exact Int.sub_nonneg_of_le (by with_reducible assumption) | omega)) z1 (by omega) (by omega)
    rw [hv1] at e7
    generalize lowP ((a.2 : Int) * b.2 - a.1 * b.1) (a.2 * b.2) = v6 at e7 h6 f6 ⊢
    refine ⟨_, rfl, r6, r1, v6, v1, rfl, h6, h16, f6, f1, g1, fun r7 hr7' => ?_⟩
    have h7 := (show FrAt (upd H6 r7 (.tup (lowI (v6.1 * v1.2) (v6.2 * v1.1)))) r7 (lowP (v6.1 * v1.2) (v6.2 * v1.1)) from upd_same)
    rw [e7] at h7
    have s7 := s6.trans (same_new hr7' (.tup (lowI (v6.1 * v1.2) (v6.2 * v1.1))))
    have h47 := same_new hr7' (.tup (lowI (v6.1 * v1.2) (v6.2 * v1.1))) _ _ h46
    generalize upd H6 r7 (.tup (lowI (v6.1 * v1.2) (v6.2 * v1.1))) = H7 at s7 h47 h7 ⊢
    have mb := mBot_bd ab
    have me := m_le ab (N := 9) (y := 0) (by decide) (by decide)
    rw [← mv_top (a := a) (b := b) (N := 9) (y := 0) (e := true) rfl] at me
    have q1 := mul_bd (a := (a.2 : Int) * b.2 - a.1 * b.1) (b := (a.2 : Int)) (m := 7) (n := 4) (by (first | exact Int.sub_nonneg_of_le (by with_reducible assumption) | omega)) (by omega) (by (first | with_reducible exact Int.natCast_nonneg _ | omega)) (by (first | exact Int.lt_of_le_of_lt (by with_reducible assumption) (by decide +kernel) | omega))
    have q2 := mul_bd (a := (a.2 : Int) * b.2) (b := (a.2 : Int) - a.1) (m := 7) (n := 4) (by (first | exact Int.le_trans (b := 1) (by decide +kernel) (by with_reducible assumption) | omega)) (by (first | exact Int.lt_of_le_of_lt (by with_reducible assumption) (by decide +kernel) | omega)) (by omega) (by omega)
    have q3 := Int.mul_pos (show (0 : Int) < a.2 * b.2 by (first | exact Int.lt_of_lt_of_le (b := 1) (by decide +kernel) (by with_reducible assumption) | omega)) (show (0 : Int) < (a.2 : Int) - a.1 by omega)
    have f4 : Fr72 (lowP (mvN a b true : Int) (mBot a.1 a.2 b.1 b.2 : Int)) := lowP_fr (by (first | with_reducible exact Int.natCast_nonneg _ | omega)) (by omega) (by omega) (by omega)
    have f7 : Fr72 (lowP (((a.2 : Int) * b.2 - a.1 * b.1) * a.2) ((a.2 : Int) * b.2 * (a.2 - a.1))) := lowP_fr q1.1 (by omega) (by (first | exact Int.add_one_le_of_lt (a := 0) (by with_reducible assumption) | omega)) (by omega)
    have e8 := mul_low (a := (mvN a b true : Int)) (b := (mBot a.1 a.2 b.1 b.2 : Int)) (c := ((a.2 : Int) * b.2 - a.1 * b.1) * a.2) (d := (a.2 : Int) * b.2 * (a.2 - a.1)) (by (first | with_reducible exact Int.natCast_nonneg _ | omega)) (by omega) q1.1 (by (first | exact Int.add_one_le_of_lt (a := 0) (by with_reducible assumption) | omega))
    rw [mv_mid ab] at e8
    refine ⟨r4, r7, _, _, _, _, rfl, h47, h7, f4.1, f4.2.1, f7.1, f7.2.1, f4.2.2, f7.2.2, fun r8 hr8' => ?_⟩
    refine k _ r8 (s7.trans (same_new hr8' _)) ?_
    rw [← e8]
    exact upd_same
theorem nd_Row1 : (["other", "share", "moved"] : List Str).Nodup := by decide +kernel
theorem scRow : FnScope ["a", "b", "low", "high", "rung", "moved", "pairs"] ["a", "b", "low", "high", "rung"] (defScope sRow) := ⟨rfl, rfl, rfl, by decide +kernel, rfl, by decide +kernel, by decide +kernel⟩
theorem ok_Row {f : Addr} {fd : FuncData} (F : Fun K "row_between" "row_between" sRow f fd)
    {cO : Addr} (m_ONE : mg "ONE" = some (.ref cO)) (hO : ∀ H, SqT K H cO [.int 1, .int 1])
    {f_Mov : Addr} {d_Mov : FuncData} (G_Mov : FnOk P w K mg base CX0 4 f_Mov d_Mov ["a", "b", "at_end"] spMov) (b_Mov : Binds K d_Mov ["a", "b", "at_end"] []) (k_Mov : PySem.W.keepIn K (.ref f_Mov) = true) (m_Mov : mg "share_moved" = some (.ref f_Mov))
    {f_Merg : Addr} {d_Merg : FuncData} (G_Merg : FnOk P w K mg base CX0 4 f_Merg d_Merg ["pairs"] spMergedK) (b_Merg : Binds K d_Merg ["pairs"] []) (k_Merg : PySem.W.keepIn K (.ref f_Merg) = true) (m_Merg : mg "merged" = some (.ref f_Merg))
    {f_Times : Addr} {d_Times : FuncData} (G_Times : FnOk P w K mg base CX0 3 f_Times d_Times ["one", "other"] spTimes) (b_Times : Binds K d_Times ["one", "other"] []) (k_Times : PySem.W.keepIn K (.ref f_Times) = true) (m_Times : mg "times" = some (.ref f_Times))
    {f_Lad : Addr} {d_Lad : FuncData} (G_Lad : FnOk P w K mg base CX0 6 f_Lad d_Lad ["number", "steepness", "low", "high"] spLad) (b_Lad : Binds K d_Lad ["number", "steepness", "low", "high"] []) (k_Lad : PySem.W.keepIn K (.ref f_Lad) = true) (m_Lad : mg "ladder_table" = some (.ref f_Lad))
    {f_Minus : Addr} {d_Minus : FuncData} (G_Minus : FnOk P w K mg base CX0 3 f_Minus d_Minus ["one", "other"] (spMinusK K)) (b_Minus : Binds K d_Minus ["one", "other"] []) (k_Minus : PySem.W.keepIn K (.ref f_Minus) = true) (m_Minus : mg "minus" = some (.ref f_Minus))
     :
    FnOk P w K mg base CX0 7 f fd ["a", "b", "low", "high", "rung"] spRow := by
  refine F.ok scRow (fun vs H Q E h => ?_) (fun cdv A outer s H vs Q E hr h => ?_)
  · obtain ⟨p, q, a, b, lo, hi, y, rfl, _⟩ := h
    rfl
  obtain ⟨p, q, a, b, lo, hi, y, rfl, hp, hq, ab, en, y0, y1, k⟩ := h
  have hu := hu_of hr
  have hr1 : Room 1 _ := hr.mono (by decide)
  have hr3 : Room 3 _ := hr.mono (by decide)
  have hr4 : Room 4 _ := hr.mono (by decide)
  have hr6 : Room 6 _ := hr.mono (by decide)
  refine ⟨_, (pss_cons (ps_set (i := 5) scRow.nd rfl (Or.inr rfl) (pe_call G_Mov hr4 (by rfl) m_Mov k_Mov b_Mov .nil pass0 (pa_cons (pv 0) (pa_cons (pv 1) (pa_cons (pe_cmpR op_in_seq (pv 4) (pe_tup (pa_cons (pv 2) (pa_cons (pv 3) pa_nil))) rfl) pa_nil)))))
    (pss_cons (ps_setC ["other", "share", "moved"] [none, none, some 5] (i := 6) scRow.nd rfl (Or.inl rfl) (pi_tup (pe_call G_Lad hr6 (by rfl) m_Lad k_Lad b_Lad .nil pass0 (pa_cons (pv 4) (pa_cons (pv 1) (pa_cons (pv 2) (pa_cons (pv 3) pa_nil)))))) (fun _ _ _ _ => (pgtK K (n := 2) rfl (pgs_cons (pg_name (i := 0) (nd_Row1) rfl (Or.inl rfl)) (pgs_cons (pg_name (i := 1) (nd_Row1) rfl (Or.inl rfl)) pgs_nil)))) (fun _ _ _ _ => pf_nil) (fun _ _ _ _ => (pe_tup (pa_cons (pv 0) (pa_cons (pe_call G_Times hr3 (by rfl) m_Times k_Times b_Times .nil pass0 (pa_cons (pv 2) (pa_cons (pv 1) pa_nil))) pa_nil)))))
    (pss_one (ps_ret (pe_call G_Merg hr4 (by rfl) m_Merg k_Merg b_Merg .nil pass0 (pa_cons (pe_op op_cat (pv 6) (pe_lst (pa_cons (pe_tup (pa_cons (pv 4) (pa_cons (pe_call G_Minus hr3 (by rfl) m_Minus k_Minus b_Minus .nil pass0 (pa_cons (pe_glob (v := .ref cO) (by rfl) m_ONE rfl) (pa_cons (pv 5) pa_nil))) pa_nil))) pa_nil))) pa_nil)))))), ?_⟩
  obtain ⟨ea, eb, ec⟩ := id en
  have mb := mBot_bd ab
  have hN : nOf lo hi ≤ 9 := by unfold nOf; omega
  have hyN : (y - lo).toNat ≤ nOf lo hi := toN_le y1
  have ml := m_le ab (y := (y - lo).toNat) hN hyN
  have wb := wB_bd ab en
  have one : B72 1 := b72_of (by decide) (by decide)
  refine ⟨_, rfl, _, rfl, _, rfl, _, rfl, _, rfl, by show 2 ≤ sizeLine; decide, fun t0 ht0 => ⟨t0, [.int lo, .int hi], rfl, .inr (SqT.of upd_same), rfl, rfl, ?_⟩⟩
  have s0 := same_new ht0 (.tup [.int lo, .int hi])
  generalize upd H t0 (.tup [.int lo, .int hi]) = H0 at s0 ⊢
  have ei : inV (.int y) [.int lo, .int hi] = decide ((y - lo).toNat = 0 ∨ (y - lo).toNat = nOf lo hi) := by
    have e1 : ((y - lo).toNat = 0 ∨ (y - lo).toNat = nOf lo hi) ↔ (lo = y ∨ hi = y) := (end_iff y0 y1).trans (or_congr eq_comm eq_comm)
    simp only [e1, inV, eqV, List.any_cons, List.any_nil, Bool.or_false]
    by_cases c1 : lo = y <;> by_cases c2 : hi = y <;> simp [c1, c2]
  refine ⟨p, q, a, b, inV (.int y) [.int lo, .int hi], rfl, s0 _ _ hp, s0 _ _ hq, ab, fun H1 r1 s1 h1 => ?_⟩
  rw [mv_top ei] at h1
  have g1 := s0.trans s1
  generalize hM : mTop a.1 a.2 b.1 b.2 (nOf lo hi) (y - lo).toNat = Mt at h1 ml
  have f1 : Fr72 (lowP (Mt : Int) (mBot a.1 a.2 b.1 b.2 : Int)) := lowP_fr (by (first | with_reducible exact Int.natCast_nonneg _ | omega)) (by omega) (by omega) (by omega)
  refine ⟨_, rfl, _, rfl, _, rfl, _, rfl, q, b.1, b.2, y, lo, hi, rfl, g1 _ _ hq, stp_ok ab.hb, en, y0, y1, fun H2 lt us s2 hlt tw => ?_⟩
  rw [lad_ents ab.hb y0 y1] at tw
  have ul : us.length = mOf lo hi := by rw [tw.length, List.length_map, rangeI_len]
  have m10 : mOf lo hi ≤ 10 := m10_of en
  have g2 := g1.trans s2
  have h12 := s2 _ _ h1
  refine ⟨lt, rfl, ⟨_, SqT.of hlt⟩, comp_tup (K := K) (a := lt) (xs := us) (fun i zs σ H3 => Same H2 H3 ∧ (∃ v1 v2, σ = [v1, v2, some (.ref r1)]) ∧ Two (Ent H3) zs ((((rangeI lo (mOf lo hi)).map fun z => (z, (Mt : Int) * ((lSh b.1 b.2 (nOf lo hi) (y - lo).toNat (z - lo).toNat : Nat) : Int))).take i).map (lowE (wB a b (nOf lo hi)))))
    (small1000 (by omega)) ⟨Same.refl _, ⟨_, _, rfl⟩, trivial⟩ (fun i zs σ H3 ⟨_, _, e⟩ => by
      rw [e.length, List.length_map, List.length_take, List.length_map, rangeI_len]; (first | with_reducible exact Nat.min_le_left _ _ | omega)) (by rintro i zs σ H3 _ ⟨e, _⟩; exact SqT.of (e _ _ hlt)) ?_ ?_⟩
  · rintro i v zs σ H3 hv ⟨s3, ⟨v1, v2, rfl⟩, tw3⟩
    have hi' : i < mOf lo hi := by rw [← ul]; exact (List.getElem?_eq_some_iff.mp hv).1
    obtain ⟨e, he, t, q0, rfl, ht, hq0⟩ := tw.at hv
    rw [List.getElem?_map, rangeI_get hi'] at he
    have ee : e = (lo + (i : Int), lowP ((lSh b.1 b.2 (nOf lo hi) (y - lo).toNat (lo + (i : Int) - lo).toNat : Nat) : Int) ((lBot b.1 b.2 (nOf lo hi) : Nat) : Int)) := (Option.some.inj he).symm
    subst ee
    have lb := lad_bd ab.hb en y0 y1 (show lo ≤ lo + (i : Int) by (first | with_reducible exact Int.le_add_of_nonneg_right (Int.natCast_nonneg _) | omega)) (show lo + (i : Int) ≤ hi from mOf_le hi')
    have hce : ((rangeI lo (mOf lo hi)).map fun z => (z, (Mt : Int) * ((lSh b.1 b.2 (nOf lo hi) (y - lo).toNat (z - lo).toNat : Nat) : Int)))[i]? = some (lo + (i : Int), (Mt : Int) * ((lSh b.1 b.2 (nOf lo hi) (y - lo).toNat (lo + (i : Int) - lo).toNat : Nat) : Int)) := by
      rw [List.getElem?_map, rangeI_get hi']; rfl
    refine ⟨t, _, rfl, SqT.of (s3 _ _ ht), rfl, _, _, rfl, _, _, rfl, rfl, ?_⟩
    have l0 : (0 : Int) ≤ ((lSh b.1 b.2 (nOf lo hi) (y - lo).toNat (lo + (i : Int) - lo).toNat : Nat) : Int) := Int.natCast_nonneg _
    have f2 : Fr72 (lowP ((lSh b.1 b.2 (nOf lo hi) (y - lo).toNat (lo + (i : Int) - lo).toNat : Nat) : Int) ((lBot b.1 b.2 (nOf lo hi) : Nat) : Int)) := lowP_fr l0 (by omega) lb.2.1 (by omega)
    have e4 := mul_low (a := (Mt : Int)) (b := (mBot a.1 a.2 b.1 b.2 : Int)) (c := ((lSh b.1 b.2 (nOf lo hi) (y - lo).toNat (lo + (i : Int) - lo).toNat : Nat) : Int)) (d := ((lBot b.1 b.2 (nOf lo hi) : Nat) : Int)) (by (first | with_reducible exact Int.natCast_nonneg _ | omega)) (by omega) l0 lb.2.1
    refine ⟨_, rfl, _, rfl, _, rfl, r1, q0, _, _, _, _, rfl, s3 _ _ h12, s3 _ _ hq0, f1.1, f1.2.1, f2.1, f2.2.1, f1.2.2, f2.2.2, fun r4 hr4' => ?_⟩
    rw [take_snoc hce, List.map_append]
    dsimp only at hq0 ⊢
    generalize lowP ((lSh b.1 b.2 (nOf lo hi) (y - lo).toNat (lo + (i : Int) - lo).toNat : Nat) : Int) ((lBot b.1 b.2 (nOf lo hi) : Nat) : Int) = v4 at e4 ⊢
    generalize lowP (Mt : Int) (mBot a.1 a.2 b.1 b.2 : Int) = v0 at e4 ⊢
    have h4 := (show FrAt (upd H3 r4 (.tup (lowI (v0.1 * v4.1) (v0.2 * v4.2)))) r4 (lowP (v0.1 * v4.1) (v0.2 * v4.2)) from upd_same)
    rw [e4] at h4
    have s4 := same_new hr4' (.tup (lowI (v0.1 * v4.1) (v0.2 * v4.2)))
    generalize upd H3 r4 (.tup (lowI (v0.1 * v4.1) (v0.2 * v4.2))) = H4 at h4 s4 ⊢
    refine ⟨by show 2 ≤ sizeLine; decide, fun t5 ht5 => ⟨s3.trans (s4.trans (same_new ht5 _)), ⟨_, _, rfl⟩, ?_⟩⟩
    exact Two.append (tab_ts (.of (s4.trans (same_new ht5 _))) tw3) ⟨⟨t5, r4, rfl, upd_same, same_new ht5 _ _ _ h4⟩, trivial⟩
  · rintro zs σ H3 ⟨s3, _, tw3⟩ l3 hl3
    rw [ul, List.take_of_length_le (by rw [List.length_map, rangeI_len]; exact Nat.le_refl _)] at tw3
    have zl : zs.length ≤ 10 := by rw [tw3.length, List.length_map, List.length_map, rangeI_len]; exact m10
    have tw4 := tab_ts (.of (same_new hl3 (.lst zs))) tw3
    have g4 := g2.trans (s3.trans (same_new hl3 (.lst zs)))
    have h14 := same_new hl3 (.lst zs) _ _ (s3 _ _ h12)
    have hl4 : upd H3 l3 (.lst zs) l3 = some (.lst zs) := upd_same
    generalize upd H3 l3 (.lst zs) = H4 at tw4 g4 h14 hl4 ⊢
    have le1 : (lowP (Mt : Int) (mBot a.1 a.2 b.1 b.2 : Int)).1 ≤ (lowP (Mt : Int) (mBot a.1 a.2 b.1 b.2 : Int)).2 := low_le (by omega) (by omega)
    have e5 := sub_low (a := (Mt : Int)) (c := (mBot a.1 a.2 b.1 b.2 : Int) - Mt) (u := (mBot a.1 a.2 b.1 b.2 : Int)) (by (first | with_reducible exact Int.natCast_nonneg _ | omega)) (by omega) (by omega) (by omega)
    have lb := lad_bd ab.hb en y0 y1 y0 y1
    have e6 : lowP ((mBot a.1 a.2 b.1 b.2 : Int) - Mt) (mBot a.1 a.2 b.1 b.2 : Int) = lowP (((mBot a.1 a.2 b.1 b.2 : Int) - Mt) * ((lBot b.1 b.2 (nOf lo hi) : Nat) : Int)) (wB a b (nOf lo hi)) :=
      lowP_eq (by omega) (by omega) (Int.mul_nonneg (by omega) (by (first | with_reducible exact Int.natCast_nonneg _ | omega))) wb.1 (by unfold wB; rw [Int.mul_assoc, Int.mul_comm (mBot a.1 a.2 b.1 b.2 : Int)])
    refine ⟨_, rfl, _, rfl, _, rfl, cO, r1, 1, 1, _, _, rfl, hO _, h14, one, one, f1.1, f1.2.1, by decide, f1.2.2, by omega, fun r5 hr5' => ?_⟩
    generalize lowP (Mt : Int) (mBot a.1 a.2 b.1 b.2 : Int) = v0 at e5 ⊢
    have h5 := (show FrAt (upd H4 r5 (.tup (lowI (1 * v0.2 - v0.1 * 1) (1 * v0.2)))) r5 (lowP (1 * v0.2 - v0.1 * 1) (1 * v0.2)) from upd_same)
    rw [e5, e6] at h5
    have s5 := same_new hr5' (.tup (lowI (1 * v0.2 - v0.1 * 1) (1 * v0.2)))
    generalize upd H4 r5 (.tup (lowI (1 * v0.2 - v0.1 * 1) (1 * v0.2))) = H5 at h5 s5 ⊢
    refine ⟨by show 2 ≤ sizeLine; decide, fun t6 ht6 => ⟨by show 1 ≤ sizeLine; decide, fun l7 hl7 => ?_⟩⟩
    have s7 := s5.trans ((same_new ht6 (.tup [.int y, .ref r5])).trans (same_new hl7 (.lst [.ref t6])))
    have h57 := same_new hl7 (.lst [.ref t6]) _ _ (same_new ht6 (.tup [.int y, .ref r5]) _ _ h5)
    have h67 := same_new hl7 (.lst [.ref t6]) _ _ (show upd H5 t6 (.tup [.int y, .ref r5]) t6 = some (.tup [.int y, .ref r5]) from upd_same)
    have h77 : upd (upd H5 t6 (.tup [.int y, .ref r5])) l7 (.lst [.ref t6]) l7 = some (.lst [.ref t6]) := upd_same
    generalize upd (upd H5 t6 (.tup [.int y, .ref r5])) l7 (.lst [.ref t6]) = H7 at s7 h57 h67 h77 ⊢
    refine ⟨l3, l7, zs, _, rfl, rfl, s7 _ _ hl4, h77, Nat.le_of_lt (small1000 (by show zs.length + 1 ≤ _; (first | exact Nat.lt_of_le_of_lt (by with_reducible assumption) (by decide +kernel) | omega))), fun l8 hl8 => ?_⟩
    have g8 := g4.trans (s7.trans (same_new hl8 (.lst (zs ++ [.ref t6]))))
    have tw8 : Two (Ent (upd H7 l8 (.lst (zs ++ [.ref t6])))) (zs ++ [.ref t6]) ((rowC a b lo hi y).map (lowE (wB a b (nOf lo hi)))) := by
      unfold rowC
      rw [List.map_append, hM]
      exact Two.append (tab_ts (.of (s7.trans (same_new hl8 _))) tw4) ⟨⟨t6, r5, rfl, same_new hl8 _ _ _ h67, same_new hl8 _ _ _ h57⟩, trivial⟩
    have h88 : upd H7 l8 (.lst (zs ++ [.ref t6])) l8 = some (.lst (zs ++ [.ref t6])) := upd_same
    generalize upd H7 l8 (.lst (zs ++ [.ref t6])) = H8 at g8 tw8 h88 ⊢
    have rl := rowC_len (a := a) (b := b) (y := y) en
    refine ⟨l8, _, _, lo, rfl, h88, tw8, by rw [List.length_map]; (first | exact Nat.le_trans (by with_reducible assumption) (by decide +kernel) | omega), fun e he => ?_, rowC_safe ab en y0 y1, fun H9 t9 ws ks s9 h9 hr9 hm9 tw9 => ?_⟩
    · obtain ⟨c, hc, rfl⟩ := List.mem_map.mp he
      have := (rowC_all ab en y0 y1 c hc).1
      show InR lo 20 c.1
      unfold InR at *
      omega
    · rw [rowC_table ab en y0 y1 hr9 hm9] at tw9
      exact k _ t9 ws (g8.trans s9) h9 tw9
end
end Mine
namespace Mine
open PySem L2
section
variable {P : Program} {w : World} {K : PySem.W.Frag} {mg : Str → Option Value} {base : Heap}
theorem scLLow : FnScope ["_law_top", "_law_bottom", "_law_one", "_law_other"] ["_law_top", "_law_bottom"] (defScope sLLow) := ⟨rfl, rfl, rfl, by decide +kernel, rfl, by decide +kernel, by decide +kernel⟩
theorem ok_LLow {f : Addr} {fd : FuncData} (F : Fun K "_law_lowest" "_law_lowest" sLLow f fd)
     :
    FnOk P w K mg base CX0 1 f fd ["_law_top", "_law_bottom"] spLowX := by
  refine F.ok scLLow (fun vs H Q E h => ?_) (fun cdv A outer s H vs Q E hr h => ?_)
  · obtain ⟨a, b, rfl, _⟩ := h
    rfl
  obtain ⟨a, b, rfl, ha, hb, hz, k⟩ := h
  have hu := hu_of hr
  refine ⟨_, (pss_cons (ps_par (i := 2) (j := 3) rfl scLLow.nd rfl rfl (by decide) rfl rfl (pa_cons (pv 0) (pa_cons (pv 1) pa_nil)) rfl)
    (pss_cons (ps_while PassesOwn.never (pt_cmpR op_gt (pv 3) pe_int (nomark _))
    (pss_one (ps_par (i := 2) (j := 3) rfl scLLow.nd rfl rfl (by decide) rfl rfl (pa_cons (pv 3) (pa_cons (pe_op op_mod (pv 2) (pv 3)) pa_nil)) rfl)))
    (pss_one (ps_ret (pe_tup (pa_cons (pe_op op_fdivX (pv 0) (pv 2)) (pa_cons (pe_op op_fdivX (pv 1) (pv 2)) pa_nil))))))), ?_⟩
  have g0 : 0 < gI a b := gI_pos hb
  obtain ⟨n, hn, hn2⟩ := hz
  have g1 : ∃ n, Bits n (gI a b) ∧ n ≤ 8990 := ⟨n, Nat.lt_of_le_of_lt (by have := gI_le (a := a) hb; omega) hn, hn2⟩
  refine ⟨_, rfl, _, rfl, _, _, rfl, ?_⟩
  refine ⟨fun j σ H1 => H1 = H ∧ ∃ (x y : Int), σ = [some (.int a), some (.int b), some (.int x), some (.int y)] ∧ 0 ≤ x ∧ 0 ≤ y ∧ gI x y = gI a b ∧ j = y.toNat, ⟨_, rfl, a, b, rfl, ha, by (first | exact Int.le_trans (b := 1) (by decide +kernel) (by with_reducible assumption) | omega), rfl, rfl⟩, ?_⟩
  rintro j σ H1 ⟨rfl, x, y, rfl, hx, hy, hg, rfl⟩
  refine ⟨_, rfl, _, _, rfl, rfl, _, rfl, ?_⟩
  refine ite2 (fun c => ?_) (fun c => ?_)
  · have yp : 0 < y := of_decide_eq_true c
    refine ⟨fun σ' H' => H' = H1 ∧ σ' = [some (.int a), some (.int b), some (.int y), some (.int (x % y))], fun σ' H' ⟨e1, e2⟩ => ⟨(x % y).toNat, ?_, e1, y, x % y, e2, hy, Int.emod_nonneg _ (by (first | exact Int.ne_of_gt (by with_reducible assumption) | omega)), (step_gcd hx yp).trans hg, rfl⟩, ?_⟩
    · have := Int.emod_lt_of_pos x yp
      have := Int.emod_nonneg x (show y ≠ 0 by (first | exact Int.ne_of_gt (by with_reducible assumption) | omega))
      omega
    · exact ⟨_, rfl, _, rfl, _, rfl, _, _, rfl, rfl, yp, _, _, rfl, rfl, rfl⟩
  · have y0 : y = 0 := by
      have : ¬ 0 < y := fun z => c (decide_eq_true z)
      omega
    subst y0
    rw [gcd_end hx] at hg
    subst hg
    exact ⟨_, rfl, _, rfl, _, _, rfl, rfl, ⟨g0, g1⟩, _, rfl, _, rfl, _, _, rfl, rfl, ⟨g0, g1⟩, by show 2 ≤ sizeLine; decide, fun p hp => k p hp⟩
theorem scStp : FnScope ["_law_deal_here", "_law_most", "_law_q"] ["_law_deal_here", "_law_most"] (defScope sStp) := ⟨rfl, rfl, rfl, by decide +kernel, rfl, by decide +kernel, by decide +kernel⟩
theorem ok_Stp {f : Addr} {fd : FuncData} (F : Fun K "_law_steepness" "_law_steepness" sStp f fd)
    {f_LLow : Addr} {d_LLow : FuncData} (G_LLow : FnOk P w K mg base CX0 1 f_LLow d_LLow ["_law_top", "_law_bottom"] spLowX) (b_LLow : Binds K d_LLow ["_law_top", "_law_bottom"] []) (k_LLow : PySem.W.keepIn K (.ref f_LLow) = true) (m_LLow : mg "_law_lowest" = some (.ref f_LLow))
    {f_Draw : Addr} {d_Draw : FuncData} (G_Draw : FnOk P w K mg base CX0 1 f_Draw d_Draw ["_law_deal_here", "_law_many"] spDraw) (b_Draw : Binds K d_Draw ["_law_deal_here", "_law_many"] []) (k_Draw : PySem.W.keepIn K (.ref f_Draw) = true) (m_Draw : mg "_law_draw" = some (.ref f_Draw))
     :
    FnOk P w K mg base CX0 2 f fd ["_law_deal_here", "_law_most"] spStp := by
  refine F.ok scStp (fun vs H Q E h => ?_) (fun cdv A outer s H vs Q E hr h => ?_)
  · obtain ⟨d, l, rfl, _⟩ := h
    rfl
  obtain ⟨d, l, rfl, D, k⟩ := h
  have hu := hu_of hr
  have hr1 : Room 1 _ := hr.mono (by decide)
  refine ⟨_, (pss_cons (ps_set (i := 2) scStp.nd rfl (Or.inl rfl) (pe_op op_add pe_int (pe_call G_Draw hr1 (by rfl) m_Draw k_Draw b_Draw .nil pass0 (pa_cons (pv 0) (pa_cons pe_int pa_nil)))))
    (pss_one (ps_ret (pe_call G_LLow hr1 (by rfl) m_LLow k_LLow b_LLow .nil pass0 (pa_cons (pe_op op_add pe_int (pe_call G_Draw hr1 (by rfl) m_Draw k_Draw b_Draw .nil pass0 (pa_cons (pv 0) (pa_cons (pe_ix ix_list (pe_lst (pa_cons (pe_op op_sub (pv 2) pe_int) (pa_cons (pe_op op_fdivB (pv 2) pe_int) pa_nil))) (pe_op op_sub (pv 1) pe_int) (fun _ _ => rfl)) pa_nil)))) (pa_cons (pv 2) pa_nil)))))), ?_⟩
  refine ⟨_, rfl, d, l, 8, rfl, D, by decide, by decide, fun x H1 x0 x1 D1 o1 => ⟨_, _, rfl, rfl, ?_⟩⟩
  refine ⟨_, rfl, _, rfl, _, _, rfl, rfl, _, rfl, _, _, rfl, rfl, ⟨by decide, by decide⟩, by show 2 ≤ sizeLine; decide, fun p hp => ?_⟩
  refine ⟨_, rfl, _, _, rfl, rfl, ?_⟩
  refine ⟨p, _, _, _, rfl, rfl, SqL.of upd_same, ix0 _ _, ?_⟩
  refine ⟨d, l, 2 + x - 1, rfl, D1.same (same_new hp _), by omega, by omega, fun y H2 y0 y1 D2 o2 => ⟨_, _, rfl, rfl, ?_⟩⟩
  refine ⟨_, rfl, 1 + y, 2 + x, rfl, by omega, by omega, ⟨4, Bits.of (by omega) (by omega), by decide⟩, fun r hr' => ?_⟩
  obtain ⟨a, ha, e1, e2⟩ := stp_of (x := 1 + y) (y := 2 + x) (by omega) (by omega) (by omega)
  refine k r a _ ?_ ha (D2.same (same_new hr' _)) ?_
  · unfold lowI
    rw [e1, e2]
    exact upd_same
  · exact o1.trans ((Out.of (same_new hp _)).trans (o2.trans (Out.of (same_new hr' _))))
end
end Mine
namespace Mine
open PySem L2
section
variable {P : Program} {w : World} {K : PySem.W.Frag} {mg : Str → Option Value} {base : Heap}
theorem scLLad : FnScope ["_law_steepness_here", "_law_low", "_law_high", "_law_n", "_law_p", "_law_q", "_law_found", "_law_y", "_law_k"] ["_law_steepness_here", "_law_low", "_law_high", "_law_n"] (defScope sLLad) := ⟨rfl, rfl, rfl, by decide +kernel, rfl, by decide +kernel, by decide +kernel⟩
theorem ok_LLad {f : Addr} {fd : FuncData} (F : Fun K "_law_ladder" "_law_ladder" sLLad f fd)
    {f_LPow : Addr} {d_LPow : FuncData} (G_LPow : FnOk P w K mg base CX0 1 f_LPow d_LPow ["_law_number", "_law_many"] spLPow) (b_LPow : Binds K d_LPow ["_law_number", "_law_many"] []) (k_LPow : PySem.W.keepIn K (.ref f_LPow) = true) (m_LPow : mg "_law_power" = some (.ref f_LPow))
    (m_range : mg "range" = none) (m_abs : mg "abs" = none) (m_int : mg "int" = none) :
    FnOk P w K mg base CX0 2 f fd ["_law_steepness_here", "_law_low", "_law_high", "_law_n"] spLLad := by
  refine F.ok scLLad (fun vs H Q E h => ?_) (fun cdv A outer s H vs Q E hr h => ?_)
  · obtain ⟨st, p, q, lo, hi, n, rfl, _⟩ := h
    rfl
  obtain ⟨st, p, q, lo, hi, n, rfl, hst, hs, en, n0, n1, k⟩ := h
  have hu := hu_of hr
  have hr1 : Room 1 _ := hr.mono (by decide)
  refine ⟨_, (pss_cons (ps_asg (pv 0) (pg_tup rfl (pgs_cons (pg_name (i := 4) scLLad.nd rfl (Or.inl rfl)) (pgs_cons (pg_name (i := 5) scLLad.nd rfl (Or.inl rfl)) pgs_nil))))
    (pss_cons (ps_if (pt_cmpR op_eq (pv 1) (pv 2) (nomark _)) (pss_one (ps_ret (pe_lst (pa_cons (pe_tup (pa_cons pe_int (pa_cons pe_int pa_nil))) pa_nil)))) pss_nil)
    (pss_cons (ps_set (i := 6) scLLad.nd rfl (Or.inl rfl) (pe_lst pa_nil))
    (pss_cons (ps_for PassesOwn.never rfl (pi_range2 (by rfl) m_range (pa_cons (pv 1) (pa_cons (pe_op op_add (pv 2) pe_int) pa_nil))) (pg_name (i := 7) scLLad.nd rfl (Or.inl rfl))
    (pss_cons (ps_set (i := 8) scLLad.nd rfl (Or.inl rfl) (pe_callB call_abs (by rfl) m_abs PyProof.Rows.boot_abs (pa_cons (pe_op op_sub (pv 7) (pv 3)) pa_nil)))
    (pss_one (ps_expr (pe_bm PySem.F.plainAttrs_list PySem.F.slot_list_append PySem.F.type_list_append mt_append (pv 6) (pa_cons (pe_tup (pa_cons (pe_op op_mulB (pe_ix ix_list (pe_lst (pa_cons (pe_op op_sub (pv 5) (pv 4)) (pa_cons (pv 5) pa_nil))) (pe_callTy call_int1 (by rfl) m_int PyProof.Rows.boot_int (pa_cons (pe_cmpR op_in_seq (pv 7) (pe_tup (pa_cons (pv 1) (pa_cons (pv 2) pa_nil))) rfl) pa_nil)) (fun _ _ => rfl)) (pe_call G_LPow hr1 (by rfl) m_LPow k_LPow b_LPow .nil pass0 (pa_cons (pv 4) (pa_cons (pv 8) pa_nil)))) (pa_cons (pe_op op_mulB (pe_op op_add (pv 5) (pv 4)) (pe_call G_LPow hr1 (by rfl) m_LPow k_LPow b_LPow .nil pass0 (pa_cons (pv 5) (pa_cons (pv 8) pa_nil)))) pa_nil))) pa_nil))))))
    (pss_one (ps_ret (pv 6))))))), ?_⟩
  obtain ⟨p1, pq, q9⟩ := id hs
  obtain ⟨ea, eb, ec⟩ := id en
  refine ⟨_, rfl, st, _, rfl, SqT.of hst, rfl, _, _, rfl, _, _, rfl, rfl, ?_⟩
  refine ⟨_, rfl, _, rfl, rfl, _, rfl, ?_⟩
  by_cases c : lo = hi
  · refine iteP (by simp [c]) ?_
    refine ⟨by show 2 ≤ sizeLine; decide, fun t ht => ⟨by show 1 ≤ sizeLine; decide, fun l hl => ?_⟩⟩
    refine k _ l _ ((same_new ht _).trans (same_new hl _)) upd_same ?_
    have e1 : mOf lo hi = 1 := by unfold mOf; omega
    rw [e1, show rangeI lo 1 = [lo] from by simp [rangeI]]
    refine ⟨⟨t, rfl, ?_⟩, trivial⟩
    unfold ladF
    rw [if_pos c]
    exact same_new hl _ _ _ upd_same
  · refine iteN (by simp [c]) ?_
    refine ⟨Nat.zero_le _, fun lf hlf => ?_⟩
    have s0 := same_new hlf (.lst [])
    have hf0 : upd H lf (.lst []) lf = some (.lst []) := upd_same
    generalize upd H lf (.lst []) = H0 at s0 hf0 ⊢
    refine ⟨_, rfl, _, rfl, _, _, rfl, rfl, _, _, rfl, rng_of en, for_rangeA (n := mOf lo hi) (fun i σ H1 => ∃ us v7 v8, σ = [some (.ref st), some (.int lo), some (.int hi), some (.int n), some (.int p), some (.int q), some (.ref lf), v7, v8] ∧ Same H H1 ∧ H1 lf = some (.lst us) ∧ Two (FrR H1) us ((rangeI lo i).map (ladF p q lo hi n)))
      ⟨[], _, _, rfl, s0, hf0, trivial⟩ ?_ ?_⟩
    · rintro D' i σ H1 hi' ⟨us, v7, v8, rfl, s1, hf1, tw⟩
      have hy : lo + (i : Int) ≤ hi := mOf_le hi'
      refine ⟨_, rfl, _, rfl, _, _, rfl, rfl, _, rfl, ?_⟩
      refine ⟨_, rfl, .inl ⟨rfl, _, SqL.of hf1⟩, ?_⟩
      have bd := small_bd hs (n := (lo + (i : Int) - n).natAbs) (by omega)
      have e1 := pow9 (a := p) (n := (lo + (i : Int) - n).natAbs) (by (first | exact Int.le_trans (b := 1) (by decide +kernel) (by with_reducible assumption) | omega)) (by omega) (by omega)
      have e2 := pow9 (a := q) (n := (lo + (i : Int) - n).natAbs) (by omega) (by (first | with_reducible assumption | omega)) (by omega)
      have ei : inV (.int (lo + (i : Int))) [.int lo, .int hi] = decide (lo + (i : Int) = lo ∨ lo + (i : Int) = hi) := by
        simp only [inV, eqV, List.any_cons, List.any_nil, Bool.or_false]
        rw [Bool.eq_iff_iff, decide_eq_true_eq, Bool.or_eq_true, beq_iff_eq, beq_iff_eq]
        omega
      have tn : (if lo + (i : Int) - n < 0 then -(lo + (i : Int) - n) else lo + (i : Int) - n).toNat = (lo + (i : Int) - n).natAbs := abs_if _
      have tb : 0 ≤ (if lo + (i : Int) - n < 0 then -(lo + (i : Int) - n) else lo + (i : Int) - n) ∧ (if lo + (i : Int) - n < 0 then -(lo + (i : Int) - n) else lo + (i : Int) - n) ≤ 21 := by split <;> omega
      refine ⟨_, rfl, _, rfl, _, _, rfl, rfl, _, rfl, by show 2 ≤ sizeLine; decide, fun l1 hl1 => ?_⟩
      have s2 := same_new hl1 (.lst [.int (q - p), .int q])
      have h2 : upd H1 l1 (.lst [.int (q - p), .int q]) l1 = some (.lst [.int (q - p), .int q]) := upd_same
      generalize upd H1 l1 (.lst [.int (q - p), .int q]) = H2 at s2 h2 ⊢
      refine ⟨_, rfl, _, rfl, _, rfl, by show 2 ≤ sizeLine; decide, fun t1 ht1 => ⟨t1, [.int lo, .int hi], rfl, .inr (SqT.of upd_same), rfl, rfl, ?_⟩⟩
      have s3 := s2.trans (same_new ht1 (.tup [.int lo, .int hi]))
      have h3 := same_new ht1 (.tup [.int lo, .int hi]) _ _ h2
      generalize upd H2 t1 (.tup [.int lo, .int hi]) = H3 at s3 h3 ⊢
      refine .inr ⟨_, rfl, ?_⟩
      have hat : atI [V.int (q - p), V.int q] (if inV (.int (lo + (i : Int))) [.int lo, .int hi] = true then 1 else 0) = some (.int (if lo + (i : Int) = lo ∨ lo + (i : Int) = hi then q else q - p)) := by
        rw [ei]
        by_cases c1 : lo + (i : Int) = lo ∨ lo + (i : Int) = hi
        · simp only [c1, decide_true, if_true]; rfl
        · simp only [c1, decide_false, if_false]; rfl
      refine ⟨l1, _, _, _, rfl, rfl, SqL.of h3, hat, ?_⟩
      have wb : Below (if lo + (i : Int) = lo ∨ lo + (i : Int) = hi then q else q - p) := by split <;> exact ⟨by omega, by (first | exact Int.lt_of_le_of_lt (by with_reducible assumption) (by decide +kernel) | omega)⟩
      refine ⟨_, rfl, _, rfl, p, _, rfl, by (first | exact Int.le_trans (b := 1) (by decide +kernel) (by with_reducible assumption) | omega), by omega, tb.1, tb.2, ?_⟩
      rw [tn]
      refine ⟨_, _, rfl, rfl, ⟨wb, ⟨by omega, by omega⟩⟩, ?_⟩
      refine ⟨_, rfl, _, rfl, _, _, rfl, rfl, _, rfl, _, rfl, q, _, rfl, by omega, by (first | with_reducible assumption | omega), tb.1, tb.2, ?_⟩
      rw [tn]
      refine ⟨_, _, rfl, rfl, ⟨⟨by omega, by omega⟩, ⟨by omega, by omega⟩⟩, by show 2 ≤ sizeLine; decide, fun t4 ht4 => ?_⟩
      have el : ((if lo + (i : Int) = lo ∨ lo + (i : Int) = hi then q else q - p) * p ^ (lo + (i : Int) - n).natAbs, (q + p) * q ^ (lo + (i : Int) - n).natAbs) = ladF p q lo hi n (lo + (i : Int)) := by
        unfold ladF eN eD tlN shN shD
        rw [if_neg c]
        split <;> rfl
      have hf4 := same_new ht4 (.tup [.int ((if lo + (i : Int) = lo ∨ lo + (i : Int) = hi then q else q - p) * p ^ (lo + (i : Int) - n).natAbs), .int ((q + p) * q ^ (lo + (i : Int) - n).natAbs)]) _ _ (s3 _ _ hf1)
      have m10 : mOf lo hi ≤ 10 := m10_of en
      have ul : us.length ≤ 1000 := by rw [tw.length, List.length_map, rangeI_len]; omega
      refine ⟨lf, us, _, rfl, rfl, hf4, small1000 ul, ?_⟩
      refine ⟨us ++ [.ref t4], _, _, rfl, same_lst (s1.trans (s3.trans (same_new ht4 _))) hlf, upd_same, ?_⟩
      rw [rangeI_succ, List.map_append]
      have tl := (TS.of (s3.trans (same_new ht4 (.tup [.int ((if lo + (i : Int) = lo ∨ lo + (i : Int) = hi then q else q - p) * p ^ (lo + (i : Int) - n).natAbs), .int ((q + p) * q ^ (lo + (i : Int) - n).natAbs)])))).trans (TS.lst (ys := us ++ [.ref t4]) hf4)
      refine Two.append (tw.mono fun v u ⟨q', e, h⟩ => ⟨q', e, tl _ _ h⟩) ⟨⟨t4, rfl, ?_⟩, trivial⟩
      rw [← el]
      exact TS.lst hf4 _ _ upd_same
    · rintro σ H1 ⟨us, v7, v8, rfl, s1, hf1, tw⟩
      exact ⟨_, rfl, k _ lf us s1 hf1 tw⟩
end
end Mine
namespace Mine
open PySem L2
section
variable {P : Program} {w : World} {K : PySem.W.Frag} {mg : Str → Option Value} {base : Heap}
theorem scComes : FnScope ["_law_first", "_law_rows", "_law_second", "_law_low", "_law_high", "_law_z", "_law_top", "_law_bottom", "_law_k", "_law_row", "_law_rung", "_law_share", "_law_one", "_law_other"] ["_law_first", "_law_rows", "_law_second", "_law_low", "_law_high"] (defScope sComes) := ⟨rfl, rfl, rfl, by decide +kernel, rfl, by decide +kernel, by decide +kernel⟩
theorem ok_Comes {f : Addr} {fd : FuncData} (F : Fun K "_law_comes" "_law_comes" sComes f fd)
    (m_range : mg "range" = none) (m_enumerate : mg "enumerate" = none) :
    FnOk P w K mg base CX0 2 f fd ["_law_first", "_law_rows", "_law_second", "_law_low", "_law_high"] spComes := by
  refine F.ok scComes (fun vs H Q E h => ?_) (fun cdv A outer s H vs Q E hr h => ?_)
  · obtain ⟨lf, r, ls, us1, rs, us2, a, b, lo, hi, n, rfl, _⟩ := h
    rfl
  obtain ⟨lf, r, ls, us1, rs, us2, a, b, lo, hi, n, rfl, hlf, t1, hrs, trs, hls, t2, ab, en, n0, n1, k⟩ := h
  have hu := hu_of hr
  have hr1 : Room 1 _ := hr.mono (by decide)
  refine ⟨_, (pss_cons (ps_for PassesOwn.never rfl (pi_range2 (by rfl) m_range (pa_cons (pv 3) (pa_cons (pe_op op_add (pv 4) pe_int) pa_nil))) (pg_name (i := 5) scComes.nd rfl (Or.inl rfl))
    (pss_cons (ps_asg (pe_tup (pa_cons pe_int (pa_cons pe_int pa_nil))) (pg_tup rfl (pgs_cons (pg_name (i := 6) scComes.nd rfl (Or.inl rfl)) (pgs_cons (pg_name (i := 7) scComes.nd rfl (Or.inl rfl)) pgs_nil))))
    (pss_cons (ps_for PassesOwn.never rfl (pi_enumT (by rfl) m_enumerate (pa_cons (pv 1) pa_nil)) (pg_tup rfl (pgs_cons (pg_name (i := 8) scComes.nd rfl (Or.inl rfl)) (pgs_cons (pg_name (i := 9) scComes.nd rfl (Or.inl rfl)) pgs_nil)))
    (pss_one (ps_for PassesOwn.never rfl (pi_tup (pv 9)) (pg_tup rfl (pgs_cons (pg_name (i := 10) scComes.nd rfl (Or.inl rfl)) (pgs_cons (pg_name (i := 11) scComes.nd rfl (Or.inl rfl)) pgs_nil)))
    (pss_one (ps_if (pt_cmpR op_eq (pv 10) (pv 5) (nomark _)) (pss_cons (ps_par (i := 12) (j := 13) rfl scComes.nd rfl rfl (by decide) rfl rfl (pa_cons (pe_op op_mulX (pe_ix ix_tup (pe_ix ix_list (pv 0) (pv 8) (fun _ _ => rfl)) pe_int (fun _ _ => rfl)) (pe_ix ix_tup (pv 11) pe_int (fun _ _ => rfl))) (pa_cons (pe_op op_mulX (pe_ix ix_tup (pe_ix ix_list (pv 0) (pv 8) (fun _ _ => rfl)) pe_int (fun _ _ => rfl)) (pe_ix ix_tup (pv 11) pe_int (fun _ _ => rfl))) pa_nil)) rfl)
    (pss_one (ps_par (i := 6) (j := 7) rfl scComes.nd rfl rfl (by decide) rfl rfl (pa_cons (pe_op op_add (pe_op op_mulX (pv 6) (pv 13)) (pe_op op_mulX (pv 12) (pv 7))) (pa_cons (pe_op op_mulX (pv 7) (pv 13)) pa_nil)) rfl))) pss_nil)))))
    (pss_one (ps_if (pt_cmpR op_ne (pe_op op_mulX (pv 6) (pe_ix ix_tup (pe_ix ix_list (pv 2) (pe_op op_sub (pv 5) (pv 3)) (fun _ _ => rfl)) pe_int (fun _ _ => rfl))) (pe_op op_mulX (pe_ix ix_tup (pe_ix ix_list (pv 2) (pe_op op_sub (pv 5) (pv 3)) (fun _ _ => rfl)) pe_int (fun _ _ => rfl)) (pv 7)) (nomark _)) (pss_one (ps_ret pe_bl)) pss_nil)))))
    (pss_one (ps_ret pe_bl))), ?_⟩
  obtain ⟨ea, eb, ec⟩ := id en
  have m10 : mOf lo hi ≤ 10 := m10_of en
  have wb := wB_bd ab en
  refine ⟨_, rfl, _, rfl, _, _, rfl, rfl, _, _, rfl, rng_of en, for_rangeA (n := mOf lo hi) (fun i σ H1 => ∃ v5 v6 v7 v8 v9 v10 v11 v12 v13, σ = [some (.ref lf), some (.ref r), some (.ref ls), some (.int lo), some (.int hi), v5, v6, v7, v8, v9, v10, v11, v12, v13] ∧ Same H H1)
    ⟨_, _, _, _, _, _, _, _, _, rfl, Same.refl _⟩ ?_ ?_⟩
  · rintro D' i σ H1 hi' ⟨v5, v6, v7, v8, v9, v10, v11, v12, v13, rfl, s1⟩
    have hz : lo + (i : Int) ≤ hi := mOf_le hi'
    refine ⟨by show 2 ≤ sizeLine; decide, fun t0 ht0 => ⟨t0, _, rfl, SqT.of upd_same, rfl, _, _, rfl, _, _, rfl, rfl, ?_⟩⟩
    replace s1 := s1.trans (same_new ht0 (.tup [.int 0, .int 1]))
    generalize upd H1 t0 (.tup [.int 0, .int 1]) = H1' at s1 ⊢
    refine ⟨_, rfl, r, rfl, ⟨_, SqT.of (s1 _ _ hrs)⟩, for_enumTA (K := K) (a := r) (xs := rs) (fun j σ H2 => ∃ u v8 v9 v10 v11 v12 v13, σ = [some (.ref lf), some (.ref r), some (.ref ls), some (.int lo), some (.int hi), some (.int (lo + (i : Int))), some (.int u.1), some (.int u.2), v8, v9, v10, v11, v12, v13] ∧ Same H H2 ∧ DueU ((lBot a.1 a.2 (nOf lo hi) : Int) * wB a b (nOf lo hi)) (partS a b lo hi n (lo + (i : Int)) j) j u)
      ⟨(0, 1), _, _, _, _, _, _, rfl, s1, DueU.zero⟩ (by rintro j σ H2 _ ⟨_, _, _, _, _, _, _, _, e, _⟩; exact SqT.of (e _ _ hrs)) ?_ ?_⟩
    · rintro D' j v σ H2 t hv ⟨u, v8, v9, v10, v11, v12, v13, rfl, s2, du⟩ ht
      have rl : rs.length = mOf lo hi := by rw [trs.length, List.length_map, rangeI_len]
      have hj : j < mOf lo hi := by rw [← rl]; exact (List.getElem?_eq_some_iff.mp hv).1
      have hy : lo + (j : Int) ≤ hi := mOf_le hj
      obtain ⟨es, hes, q0, ws, rfl, hq0, tww⟩ := trs.at hv
      rw [List.getElem?_map, rangeI_get hj] at hes
      have ee : es = rowP a b lo hi (lo + (j : Int)) := (Option.some.inj hes).symm
      subst ee
      have s3 := s2.trans (same_new ht (.tup [.int j, .ref q0]))
      have ht3 : upd H2 t (.tup [.int j, .ref q0]) t = some (.tup [.int j, .ref q0]) := upd_same
      generalize upd H2 t (.tup [.int j, .ref q0]) = H3 at s3 ht3 ⊢
      refine ⟨t, _, rfl, SqT.of ht3, rfl, _, _, rfl, _, _, rfl, rfl, ?_⟩
      have g := rowG_bd ab en (show lo ≤ lo + (j : Int) by (first | with_reducible exact Int.le_add_of_nonneg_right (Int.natCast_nonneg _) | omega)) hy (show lo ≤ lo + (i : Int) by (first | with_reducible exact Int.le_add_of_nonneg_right (Int.natCast_nonneg _) | omega)) hz
      have lk := lad_ok ab.ha en n0 n1 (show lo ≤ lo + (j : Int) by (first | with_reducible exact Int.le_add_of_nonneg_right (Int.natCast_nonneg _) | omega)) hy
      have rm := row_mul lk wb.1 (show wB a b (nOf lo hi) < 2 ^ 60 by omega) g.1 (by omega)
      obtain ⟨w1, hw1, q1, rfl, hq1⟩ := t1.get (show ((rangeI lo (mOf lo hi)).map (ladF a.1 a.2 lo hi n))[j]? = some (ladF a.1 a.2 lo hi n (lo + (j : Int))) by rw [List.getElem?_map, rangeI_get hj]; rfl)
      have st := du.step rm.1 rm.2.1 rm.2.2.1 rm.2.2.2.1 rm.2.2.2.2
      have nd : (liveF lo (mOf lo hi) (rowG a b lo (nOf lo hi) (lo + (j : Int)))).Nodup := (range_nodup _ _).sublist List.filter_sublist
      have wl : ws.length = (liveF lo (mOf lo hi) (rowG a b lo (nOf lo hi) (lo + (j : Int)))).length := by rw [tww.length]; unfold rowP tabP liveF; rw [List.length_map]
      generalize hl : ladF a.1 a.2 lo hi n (lo + (j : Int)) = l at rm hq1 st
      refine ⟨_, rfl, q0, rfl, ⟨_, SqT.of (s3 _ _ hq0)⟩, for_tupA (K := K) (a := q0) (xs := ws) (fun x σ H4 => ∃ v10 v11 v12 v13, σ = [some (.ref lf), some (.ref r), some (.ref ls), some (.int lo), some (.int hi), some (.int (lo + (i : Int))), some (.int (if lo + (i : Int) ∈ (liveF lo (mOf lo hi) (rowG a b lo (nOf lo hi) (lo + (j : Int)))).take x then u.1 * (l.2 * (lowP (rowG a b lo (nOf lo hi) (lo + (j : Int)) (lo + (i : Int))) (wB a b (nOf lo hi))).2) + l.1 * (lowP (rowG a b lo (nOf lo hi) (lo + (j : Int)) (lo + (i : Int))) (wB a b (nOf lo hi))).1 * u.2 else u.1)), some (.int (if lo + (i : Int) ∈ (liveF lo (mOf lo hi) (rowG a b lo (nOf lo hi) (lo + (j : Int)))).take x then u.2 * (l.2 * (lowP (rowG a b lo (nOf lo hi) (lo + (j : Int)) (lo + (i : Int))) (wB a b (nOf lo hi))).2) else u.2)), some (.int j), some (.ref q0), v10, v11, v12, v13] ∧ Same H H4)
        ⟨v10, v11, v12, v13, by rw [List.take_zero, if_neg List.not_mem_nil, if_neg List.not_mem_nil]; rfl, s3⟩ (by rintro x σ H4 _ ⟨_, _, _, _, _, e⟩; exact SqT.of (e _ _ hq0)) ?_ ?_⟩
      · rintro D' x v σ H4 hv2 ⟨v10, v11, v12, v13, rfl, s4⟩
        obtain ⟨e2, he2, t4, q2, rfl, ht4, hq2⟩ := tww.at hv2
        obtain ⟨y, hy2, rfl⟩ := tabP_at he2
        refine ⟨t4, _, rfl, SqT.of (s4 _ _ ht4), rfl, _, _, rfl, _, _, rfl, rfl, ?_⟩
        refine ⟨_, rfl, _, rfl, rfl, _, rfl, ?_⟩
        rw [take_snoc hy2]
        by_cases c : y = lo + (i : Int)
        · subst c
          have nm : lo + (i : Int) ∉ (liveF lo (mOf lo hi) (rowG a b lo (nOf lo hi) (lo + (j : Int)))).take x := fun z => by
            obtain ⟨x', hx', ex⟩ := List.mem_iff_getElem.mp z
            rw [List.length_take] at hx'
            have hxl := (List.getElem?_eq_some_iff.mp hy2).1
            have e1 : (liveF lo (mOf lo hi) (rowG a b lo (nOf lo hi) (lo + (j : Int))))[x'] = (liveF lo (mOf lo hi) (rowG a b lo (nOf lo hi) (lo + (j : Int))))[x] := by
              rw [List.getElem_take] at ex
              rw [ex]
              exact (List.getElem?_eq_some_iff.mp hy2).2.symm
            have := (List.getElem_inj nd).mp e1
            omega
          refine iteP (by simp) ?_
          rw [if_neg nm, if_neg nm]
          have bl : Bits 160 l.1 ∧ Bits 160 l.2 := by rw [← hl]; exact ⟨(Bits.of lk.a lk.a2).mono (by decide), (Bits.of (by have := lk.b; (first | exact Int.le_trans (b := 1) (by decide +kernel) (by with_reducible assumption) | omega)) lk.b2).mono (by decide)⟩
          have bg := low_bits (f := rowG a b lo (nOf lo hi) (lo + (j : Int)) (lo + (i : Int))) (T := wB a b (nOf lo hi)) g.1 (by omega) wb.1 (by omega)
          refine ⟨_, rfl, _, rfl, lf, us1, _, .ref q1, rfl, rfl, SqL.of (s4 _ _ hlf), atI_nat hw1, q1, _, _, _, rfl, rfl, SqT.of (s4 _ _ hq1), ix0 _ _, _, rfl, q2, _, _, _, rfl, rfl, SqT.of (s4 _ _ hq2), ix0 _ _, _, _, rfl, rfl, ⟨160, 160, bl.1, bg.1, by decide, by decide⟩, ?_⟩
          refine ⟨_, rfl, _, rfl, lf, us1, _, .ref q1, rfl, rfl, SqL.of (s4 _ _ hlf), atI_nat hw1, q1, _, _, _, rfl, rfl, SqT.of (s4 _ _ hq1), ix1 _ _, _, rfl, q2, _, _, _, rfl, rfl, SqT.of (s4 _ _ hq2), ix1 _ _, _, _, rfl, rfl, ⟨160, 160, bl.2, bg.2, by decide, by decide⟩, _, _, rfl, ?_⟩
          refine ⟨_, rfl, _, rfl, _, _, rfl, rfl, ⟨161 * j + 1, 160, du.ba, rm.2.2.2.2, by omega, by decide⟩, _, rfl, _, rfl, _, _, rfl, rfl, ⟨160, 161 * j + 1, rm.2.2.2.1, du.bb, by decide, by omega⟩, _, _, rfl, rfl, ?_⟩
          refine ⟨_, rfl, _, rfl, _, _, rfl, rfl, ⟨161 * j + 1, 160, du.bb, rm.2.2.2.2, by omega, by decide⟩, _, _, rfl, ?_⟩
          have pm : lo + (i : Int) ∈ (liveF lo (mOf lo hi) (rowG a b lo (nOf lo hi) (lo + (j : Int)))).take x ++ [lo + (i : Int)] := List.mem_append_right _ List.mem_cons_self
          exact ⟨_, _, _, _, by rw [if_pos pm, if_pos pm]; rfl, s4⟩
        · refine iteN (by simp [c]) ?_
          have em : (lo + (i : Int) ∈ (liveF lo (mOf lo hi) (rowG a b lo (nOf lo hi) (lo + (j : Int)))).take x ++ [y]) ↔ (lo + (i : Int) ∈ (liveF lo (mOf lo hi) (rowG a b lo (nOf lo hi) (lo + (j : Int)))).take x) := by
            have : ¬ lo + (i : Int) = y := fun z => c z.symm
            simp [this]
          exact ⟨_, _, _, _, by simp only [em]; rfl, s4⟩
      · rintro σ H4 ⟨v10, v11, v12, v13, rfl, s4⟩
        rw [wl, List.take_length]
        by_cases c : lo + (i : Int) ∈ liveF lo (mOf lo hi) (rowG a b lo (nOf lo hi) (lo + (j : Int)))
        · rw [if_pos c, if_pos c]
          refine ⟨(u.1 * (l.2 * (lowP (rowG a b lo (nOf lo hi) (lo + (j : Int)) (lo + (i : Int))) (wB a b (nOf lo hi))).2) + l.1 * (lowP (rowG a b lo (nOf lo hi) (lo + (j : Int)) (lo + (i : Int))) (wB a b (nOf lo hi))).1 * u.2, u.2 * (l.2 * (lowP (rowG a b lo (nOf lo hi) (lo + (j : Int)) (lo + (i : Int))) (wB a b (nOf lo hi))).2)), _, _, _, _, _, _, rfl, s4, ?_⟩
          rw [partS_succ]
          exact st
        · rw [if_neg c, if_neg c]
          refine ⟨u, _, _, _, _, _, _, rfl, s4, ?_⟩
          have g0 : rowG a b lo (nOf lo hi) (lo + (j : Int)) (lo + (i : Int)) = 0 := by
            by_cases z : 0 < rowG a b lo (nOf lo hi) (lo + (j : Int)) (lo + (i : Int))
            · exact absurd (mem_live.mpr ⟨inR_to (by (first | with_reducible exact Int.le_add_of_nonneg_right (Int.natCast_nonneg _) | omega)) hz, z⟩) c
            · omega
          rw [partS_succ, g0, Int.mul_zero, Int.add_zero]
          exact du.more (by (first | with_reducible exact Nat.le_succ _ | omega))
    · rintro σ H2 ⟨u, v8, v9, v10, v11, v12, v13, rfl, s2, du⟩
      have rl : rs.length = mOf lo hi := by rw [trs.length, List.length_map, rangeI_len]
      rw [rl] at du
      have ce := comes_eq ab en n0 n1 (show lo ≤ lo + (i : Int) by (first | with_reducible exact Int.le_add_of_nonneg_right (Int.natCast_nonneg _) | omega)) hz du
      obtain ⟨w2, hw2, q2, rfl, hq2⟩ := t2.get (show ((rangeI lo (mOf lo hi)).map (ladF b.1 b.2 lo hi n))[i]? = some (ladF b.1 b.2 lo hi n (lo + (i : Int))) by rw [List.getElem?_map, rangeI_get hi']; rfl)
      have lk := lad_ok ab.hb en n0 n1 (show lo ≤ lo + (i : Int) by (first | with_reducible exact Int.le_add_of_nonneg_right (Int.natCast_nonneg _) | omega)) hz
      have hat : atI us2 (lo + (i : Int) - lo) = some (.ref q2) := by
        rw [show lo + (i : Int) - lo = (i : Int) by omega]
        exact atI_nat hw2
      have bl : Bits 160 (ladF b.1 b.2 lo hi n (lo + (i : Int))).1 ∧ Bits 160 (ladF b.1 b.2 lo hi n (lo + (i : Int))).2 := ⟨(Bits.of lk.a lk.a2).mono (by decide), (Bits.of (by have := lk.b; (first | exact Int.le_trans (b := 1) (by decide +kernel) (by with_reducible assumption) | omega)) lk.b2).mono (by decide)⟩
      refine ⟨_, rfl, _, rfl, _, rfl, _, rfl, _, _, rfl, rfl, ls, us2, _, .ref q2, rfl, rfl, SqL.of (s2 _ _ hls), hat, q2, _, _, _, rfl, rfl, SqT.of (s2 _ _ hq2), ix1 _ _, _, _, rfl, rfl, ⟨161 * mOf lo hi + 1, 160, du.ba, bl.2, by omega, by decide⟩, ?_⟩
      refine ⟨_, rfl, _, rfl, _, rfl, _, _, rfl, rfl, ls, us2, _, .ref q2, rfl, rfl, SqL.of (s2 _ _ hls), hat, q2, _, _, _, rfl, rfl, SqT.of (s2 _ _ hq2), ix0 _ _, _, rfl, _, _, rfl, rfl, ⟨160, 161 * mOf lo hi + 1, bl.1, du.bb, by decide, by omega⟩, ?_⟩
      refine ⟨rfl, _, rfl, ?_⟩
      refine iteN (by simp [ce]) ?_
      exact ⟨_, _, _, _, _, _, _, _, _, rfl, s2⟩
  · rintro σ H1 ⟨v5, v6, v7, v8, v9, v10, v11, v12, v13, rfl, s1⟩
    exact k _ s1
end
end Mine
namespace Mine
open PySem L2
section
variable {P : Program} {w : World} {K : PySem.W.Frag} {mg : Str → Option Value} {base : Heap}
theorem nd_IsT1 : (["_law_one"] : List Str).Nodup := by decide +kernel
theorem nd_IsT2 : (["_law_y", "_law_share"] : List Str).Nodup := by decide +kernel
theorem nd_IsT4 : (["_law_one"] : List Str).Nodup := by decide +kernel
theorem nd_IsT5 : (["_law_one"] : List Str).Nodup := by decide +kernel
theorem nd_IsT3 : (["_law_y", "_law_table"] : List Str).Nodup := by decide +kernel
theorem nd_IsT6 : (["_law_one"] : List Str).Nodup := by decide +kernel
theorem scIsT : FnScope ["_law_table", "_law_low", "_law_high", "_law_top", "_law_bottom", "_law_y", "_law_share"] ["_law_table", "_law_low", "_law_high"] (defScope sIsT) := ⟨rfl, rfl, rfl, by decide +kernel, rfl, by decide +kernel, by decide +kernel⟩
theorem ok_IsT {f : Addr} {fd : FuncData} (F : Fun K "_law_is_table" "_law_is_table" sIsT f fd)
    {f_LLow : Addr} {d_LLow : FuncData} (G_LLow : FnOk P w K mg base CX0 1 f_LLow d_LLow ["_law_top", "_law_bottom"] spLowX) (b_LLow : Binds K d_LLow ["_law_top", "_law_bottom"] []) (k_LLow : PySem.W.keepIn K (.ref f_LLow) = true) (m_LLow : mg "_law_lowest" = some (.ref f_LLow))
    (m_isinstance : mg "isinstance" = none) (m_tuple : mg "tuple" = none) (m_all : mg "all" = none) (m_bool : mg "bool" = none) (m_range : mg "range" = none) (m_len : mg "len" = none) (m_min : mg "min" = none) (m_int : mg "int" = none) :
    FnOk P w K mg base CX0 2 f fd ["_law_table", "_law_low", "_law_high"] spIsT := by
  refine F.ok scIsT (fun vs H Q E h => ?_) (fun cdv A outer s H vs Q E hr h => ?_)
  · obtain ⟨t, ws, lo, hi, W, F, rfl, _⟩ := h
    rfl
  obtain ⟨t, ws, lo, hi, W, F, rfl, ht, tw, O, k⟩ := h
  have hu := hu_of hr
  have hr1 : Room 1 _ := hr.mono (by decide)
  have key2 : ∃ R : L2.TS, PSs (cxOf CX0 P w K mg base ["_law_table", "_law_low", "_law_high", "_law_top", "_law_bottom", "_law_y", "_law_share"] "_law_is_table" (defScope sIsT) f cdv A outer s H E).nox (List.drop 2 (defBody sIsT)) R ∧ ∀ HX, Same H HX → R { nx := fun _ H' => Q .non H', rt := Q } [some (.ref t), some (.int lo), some (.int hi), none, none, none, none] HX := by
    refine ⟨_, (pss_cons (ps_asg (pe_tup (pa_cons pe_int (pa_cons pe_int pa_nil))) (pg_tup rfl (pgs_cons (pg_name (i := 3) scIsT.nd rfl (Or.inl rfl)) (pgs_cons (pg_name (i := 4) scIsT.nd rfl (Or.inl rfl)) pgs_nil))))
    (pss_cons (ps_for PassesOwn.never rfl (pi_tup (pv 0)) (pg_tup rfl (pgs_cons (pg_name (i := 5) scIsT.nd rfl (Or.inl rfl)) (pgs_cons (pg_name (i := 6) scIsT.nd rfl (Or.inl rfl)) pgs_nil)))
    (pss_cons (ps_if (PW.pt (pw_or (pt_val (pe_callB call_isinst (by rfl) m_isinstance PyProof.Rows.boot_isinstance (pa_cons (pv 5) (pa_cons (pe_bltn (v := .ty "bool") (by rfl) m_bool PyProof.Rows.boot_bool rfl) pa_nil)))) (pw_or (pt_not (pt_val (pe_callB call_isinst (by rfl) m_isinstance PyProof.Rows.boot_isinstance (pa_cons (pv 6) (pa_cons (pe_bltn (v := .ty "tuple") (by rfl) m_tuple PyProof.Rows.boot_tuple rfl) pa_nil))))) (pw_or (pt_cmpR op_ne (pe_callB call_len_seq (by rfl) m_len PySem.boot_len (pa_cons (pv 6) pa_nil)) pe_int (nomark _)) (pw_or1 (pt_cmpR op_lt (pe_callB call_min_t (by rfl) m_min PyProof.Rows.boot_min (pa_cons (pv 6) pa_nil)) pe_int (nomark _))))))) (pss_one (ps_ret pe_bl)) pss_nil)
    (pss_cons (ps_if (PW.pt (pw_or (pt_not (pt_val (pe_callB call_all (by rfl) m_all PyProof.Rows.boot_all (pa_cons (pe_comp ["_law_one"] [none] (pi_tup (pv 6)) (fun _ _ _ _ => (pg_name (i := 0) (nd_IsT6) rfl (Or.inl rfl))) (fun _ _ _ _ => pf_nil) (fun _ _ _ _ => (pe_callB (isinstK K) (by rfl) m_isinstance PyProof.Rows.boot_isinstance (pa_cons (pv 0) (pa_cons (pe_bltn (v := .ty "int") (by rfl) m_int PyProof.Rows.boot_int rfl) pa_nil))))) pa_nil)))) (pw_or1 (pt_cmpR (op_neD hr1) (pe_call G_LLow hr1 (by rfl) m_LLow k_LLow b_LLow .nil pass0 (pa_cons (pe_ix ix_tup (pv 6) pe_int (fun _ _ => rfl)) (pa_cons (pe_ix ix_tup (pv 6) pe_int (fun _ _ => rfl)) pa_nil))) (pv 6) (nomark _))))) (pss_one (ps_ret pe_bl)) pss_nil)
    (pss_one (ps_par (i := 3) (j := 4) rfl scIsT.nd rfl rfl (by decide) rfl rfl (pa_cons (pe_op op_add (pe_op op_mulX (pv 3) (pe_ix ix_tup (pv 6) pe_int (fun _ _ => rfl))) (pe_op op_mulX (pe_ix ix_tup (pv 6) pe_int (fun _ _ => rfl)) (pv 4))) (pa_cons (pe_op op_mulX (pv 4) (pe_ix ix_tup (pv 6) pe_int (fun _ _ => rfl))) pa_nil)) rfl)))))
    (pss_one (ps_ret (pe_cmpR op_eq (pv 3) (pv 4) (nomark _)))))), fun H6 g6 => ?_⟩
    obtain ⟨ea, eb, ec⟩ := id O.en
    have m10 : mOf lo hi ≤ 10 := m10_of O.en
    have tl := tabP_len (lo := lo) (m := mOf lo hi) (w := W) (F := F)
    have wl := tw.length
    have ll : (liveF lo (mOf lo hi) F).length = ws.length := by rw [wl]; unfold tabP liveF; rw [List.length_map]
    refine ⟨by show 2 ≤ sizeLine; decide, fun t0 ht0 => ⟨t0, _, rfl, SqT.of upd_same, rfl, _, _, rfl, _, _, rfl, rfl, ?_⟩⟩
    replace g6 := g6.trans (same_new ht0 (.tup [.int 0, .int 1]))
    generalize upd H6 t0 (.tup [.int 0, .int 1]) = H7 at g6 ⊢
    refine ⟨_, rfl, t, rfl, ⟨_, SqT.of (g6 _ _ ht)⟩, for_tupA (K := K) (a := t) (xs := ws) (fun i σ H8 => ∃ u v5 v6, σ = [some (.ref t), some (.int lo), some (.int hi), some (.int u.1), some (.int u.2), v5, v6] ∧ Same H H8 ∧ DueU W (((liveF lo (mOf lo hi) F).take i).map F).sum i u)
      ⟨(0, 1), _, _, rfl, g6, DueU.zero⟩ (by rintro i σ H8 _ ⟨_, _, _, _, e, _⟩; exact SqT.of (e _ _ ht)) ?_ ?_⟩
    · rintro D' i x σ H8 hx ⟨u, v5, v6, rfl, s8, du⟩
      obtain ⟨e, he, t4, q2, rfl, ht4, hq2⟩ := tw.at hx
      obtain ⟨y, hy2, rfl⟩ := tabP_at he
      have ix : i < ws.length := (List.getElem?_eq_some_iff.mp hx).1
      obtain ⟨iy, py⟩ := mem_live.mp (List.mem_of_getElem? hy2)
      have ry := inR_of iy eb
      have fy := O.f0 y ry.1 ry.2
      have w1 := O.w1
      have w2 := O.w2
      have la : 1 ≤ (lowP (F y) W).1 := low1_pos py w1
      have lb : 1 ≤ (lowP (F y) W).2 := low2_pos w1
      have ba := low1_le (a := F y) (b := W) (by (first | exact Int.le_of_lt (by with_reducible assumption) | omega)) w1
      have bb := low2_le (a := F y) (b := W) w1
      have hr : (lowP (F y) W).1 * W = F y * (lowP (F y) W).2 := low_ratio (by (first | exact Int.le_of_lt (by with_reducible assumption) | omega)) w1
      have lw := low_low (a := F y) (b := W) (by (first | exact Int.le_of_lt (by with_reducible assumption) | omega)) w1
      have bo : Bits 160 (lowP (F y) W).1 := Bits.of (by (first | exact Int.le_trans (b := 1) (by decide +kernel) (by with_reducible assumption) | omega)) (by show low1 _ _ < _; omega)
      have bt : Bits 160 (lowP (F y) W).2 := Bits.of (by (first | exact Int.le_trans (b := 1) (by decide +kernel) (by with_reducible assumption) | omega)) (by show low2 _ _ < _; omega)
      have st := du.step (show 0 ≤ (lowP (F y) W).1 by (first | exact Int.le_trans (b := 1) (by decide +kernel) (by with_reducible assumption) | omega)) lb hr bo bt
      refine ⟨t4, _, rfl, SqT.of (s8 _ _ ht4), rfl, _, _, rfl, _, _, rfl, rfl, ?_⟩
      have hq := s8 _ _ hq2
      refine ⟨_, rfl, _, _, _, false, rfl, .int y, rfl, _, rfl, ?_⟩
      refine ⟨_, rfl, _, _, _, true, rfl, .tup hq, rfl, _, rfl, ?_⟩
      refine ⟨_, rfl, q2, _, rfl, .inr (SqT.of hq), rfl, _, rfl, ?_⟩
      refine ⟨_, rfl, q2, [(lowP (F y) W).1, (lowP (F y) W).2], rfl, SqT.of hq, by simp, fun mn hmn => ⟨_, _, rfl, rfl, _, rfl, ?_⟩⟩
      have mn1 : 1 ≤ mn := by
        rcases List.mem_cons.mp hmn with z | z
        · omega
        · have z : mn = (lowP (F y) W).2 := by simpa using z
          omega
      refine iteN (by simp; (first | with_reducible assumption | omega)) ?_
      refine ⟨_, rfl, q2, rfl, ⟨_, SqT.of hq⟩, comp_tup (K := K) (a := q2) (xs := [.int (lowP (F y) W).1, .int (lowP (F y) W).2]) (fun j ys σ H9 => H9 = H8 ∧ (∃ v, σ = [v]) ∧ ys = (List.replicate j true).map V.bl)
        (by show 2 < sizeLine; decide) ⟨rfl, ⟨_, rfl⟩, rfl⟩ (by rintro j ys σ H9 ⟨_, _, e⟩; rw [e, List.length_map, List.length_replicate]; exact Nat.le_refl _) (by rintro j ys σ H9 _ ⟨e, _⟩; rw [e]; exact SqT.of hq) ?_ ?_⟩
      · rintro j x ys σ H9 hx ⟨rfl, ⟨v, rfl⟩, rfl⟩
        obtain ⟨z, rfl⟩ : ∃ z, x = V.int z := by
          match j, hx with
          | 0, hx => exact ⟨_, (Option.some.inj hx).symm⟩
          | 1, hx => exact ⟨_, (Option.some.inj hx).symm⟩
        refine ⟨_, rfl, _, _, _, true, rfl, .int z, rfl, rfl, ⟨_, rfl⟩, ?_⟩
        rw [List.replicate_succ', List.map_append]
        rfl
      rintro ys σ H9 ⟨rfl, _, rfl⟩ l9 hl9
      refine ⟨l9, List.replicate 2 true, rfl, SqL.of upd_same, _, rfl, ?_⟩
      have s9 := s8.trans (same_new hl9 (.lst ((List.replicate 2 true).map V.bl)))
      generalize upd H9 l9 (.lst ((List.replicate 2 true).map V.bl)) = H9' at s9 ⊢
      have hq9 := s9 _ _ hq2
      refine ⟨_, rfl, q2, _, _, _, rfl, rfl, SqT.of hq9, ix0 _ _, _, rfl, q2, _, _, _, rfl, rfl, SqT.of hq9, ix1 _ _, ?_⟩
      refine ⟨_, _, rfl, Int.le_trans (by decide) la, lb, ⟨160, bt, by decide⟩, fun r10 hr10 => ?_⟩
      have s10 := s9.trans (same_new hr10 (.tup (lowI (lowP (F y) W).1 (lowP (F y) W).2)))
      have h10 : TupAt (upd H9' r10 (.tup (lowI (lowP (F y) W).1 (lowP (F y) W).2))) r10 (lowP (F y) W).1 (lowP (F y) W).2 := by
        show upd H9' r10 (.tup [.int (low1 (low1 (F y) W) (low2 (F y) W)), .int (low2 (low1 (F y) W) (low2 (F y) W))]) r10 = _
        rw [lw.1, lw.2]
        exact upd_same
      generalize upd H9' r10 (.tup (lowI (lowP (F y) W).1 (lowP (F y) W).2)) = H10 at s10 h10 ⊢
      have hq10 := s10 _ _ hq2
      refine ⟨_, rfl, fracD (lowP (F y) W).1 (lowP (F y) W).2, fracD (lowP (F y) W).1 (lowP (F y) W).2, frac_rep h10, frac_rep hq10, shaped_ints [_, _], shaped_ints [_, _], nomix_ints [_, _] [_, _], _, rfl, ?_⟩
      refine iteN (by show ¬ (!Spec.same _ _) = true; rw [show fracD (lowP (F y) W).1 (lowP (F y) W).2 = .tuple ([(lowP (F y) W).1, (lowP (F y) W).2].map PyData.int) from rfl]; simp [Spec.same, Spec.sameAll]) ?_
      refine ⟨_, rfl, _, rfl, q2, _, _, _, rfl, rfl, SqT.of hq10, ix1 _ _, _, _, rfl, rfl, ⟨161 * i + 1, 160, du.ba, bt, by omega, by decide⟩, _, rfl, q2, _, _, _, rfl, rfl, SqT.of hq10, ix0 _ _, _, rfl, _, _, rfl, rfl, ⟨160, 161 * i + 1, bo, du.bb, by decide, by omega⟩, _, _, rfl, rfl, ?_⟩
      refine ⟨_, rfl, _, rfl, q2, _, _, _, rfl, rfl, SqT.of hq10, ix1 _ _, _, _, rfl, rfl, ⟨161 * i + 1, 160, du.bb, bt, by omega, by decide⟩, _, _, rfl, ?_⟩
      refine ⟨(u.1 * (lowP (F y) W).2 + (lowP (F y) W).1 * u.2, u.2 * (lowP (F y) W).2), _, _, rfl, s10, ?_⟩
      rw [take_snoc hy2, List.map_append, List.sum_append]
      simpa using st
    · rintro σ H8 ⟨u, v5, v6, rfl, s8, du⟩
      rw [← ll, List.take_length, live_sum (fun y hy => (O.f0 y (inR_of hy eb).1 (inR_of hy eb).2).1), O.sm] at du
      have eu : u.1 = u.2 := by
        have r := du.r
        rw [Int.mul_comm W] at r
        exact Int.eq_of_mul_eq_mul_right (by have := O.w1; omega) r
      refine ⟨_, rfl, _, rfl, rfl, ?_⟩
      have e : decide (V.int u.1 = V.int u.2) = true := decide_eq_true (by rw [eu])
      rw [e]
      exact k _ s8
  obtain ⟨R2, hR2, fin2⟩ := key2
  have key1 : ∃ R : L2.TS, PSs (cxOf CX0 P w K mg base ["_law_table", "_law_low", "_law_high", "_law_top", "_law_bottom", "_law_y", "_law_share"] "_law_is_table" (defScope sIsT) f cdv A outer s H E).nox (List.drop 1 (defBody sIsT)) R ∧ ∀ HX, Same H HX → R { nx := fun _ H' => Q .non H', rt := Q } [some (.ref t), some (.int lo), some (.int hi), none, none, none, none] HX := by
    refine ⟨_, (pss_cons (ps_if (pt_cmpR (op_neD hr1) (pe_comp ["_law_y", "_law_share"] [none, none] (pi_tup (pv 0)) (fun _ _ _ _ => (pgtK K (n := 2) rfl (pgs_cons (pg_name (i := 0) (nd_IsT2) rfl (Or.inl rfl)) (pgs_cons (pg_name (i := 1) (nd_IsT2) rfl (Or.inl rfl)) pgs_nil)))) (fun _ _ _ _ => pf_nil) (fun _ _ _ _ => (pv 0))) (pe_comp ["_law_y", "_law_table"] [none, some 0] (pi_range2 (by rfl) m_range (pa_cons (pv 1) (pa_cons (pe_op op_add (pv 2) pe_int) pa_nil))) (fun _ _ _ _ => (pg_name (i := 0) (nd_IsT3) rfl (Or.inl rfl))) (fun _ _ _ _ => (pf_one (pt_cmpR (inK K) (pv 0) (pe_comp ["_law_one"] [none] (pitK K (pv 1)) (fun _ _ _ _ => (pg_name (i := 0) (nd_IsT5) rfl (Or.inl rfl))) (fun _ _ _ _ => pf_nil) (fun _ _ _ _ => (pe_ix (ixtK K) (pv 0) pe_int (fun _ _ => rfl)))) rfl))) (fun _ _ _ _ => (pv 0))) (nomark _)) (pss_one (ps_ret pe_bl)) pss_nil)
    hR2), fun H1 s1 => ?_⟩
    obtain ⟨ea, eb, ec⟩ := id O.en
    have m10 : mOf lo hi ≤ 10 := m10_of O.en
    have tl := tabP_len (lo := lo) (m := mOf lo hi) (w := W) (F := F)
    have wl := tw.length
    have ll : (liveF lo (mOf lo hi) F).length = ws.length := by rw [wl]; unfold tabP liveF; rw [List.length_map]
    refine ⟨_, rfl, t, rfl, ⟨_, SqT.of (s1 _ _ ht)⟩, comp_tup (K := K) (a := t) (xs := ws) (fun i ys σ H3 => H3 = H1 ∧ (∃ v1 v2, σ = [v1, v2]) ∧ ys = ((liveF lo (mOf lo hi) F).take i).map V.int)
      (small1000 (by omega)) ⟨rfl, ⟨_, _, rfl⟩, rfl⟩ (by rintro i ys σ H3 ⟨_, _, e⟩; rw [e, List.length_map, List.length_take]; (first | with_reducible exact Nat.min_le_left _ _ | omega)) (by rintro i ys σ H3 _ ⟨e, _⟩; rw [e]; exact SqT.of (s1 _ _ ht)) ?_ ?_⟩
    · rintro i x ys σ H3 hx ⟨rfl, ⟨v1, v2, rfl⟩, rfl⟩
      obtain ⟨e, he, t4, q2, rfl, ht4, hq2⟩ := tw.at hx
      obtain ⟨y, hy2, rfl⟩ := tabP_at he
      refine ⟨t4, _, rfl, SqT.of (s1 _ _ ht4), rfl, _, _, rfl, _, _, rfl, rfl, ?_⟩
      exact ⟨_, rfl, rfl, ⟨_, _, rfl⟩, by rw [take_snoc hy2, List.map_append]; rfl⟩
    rintro ys σ H3 ⟨rfl, _, rfl⟩ l2 hl2
    rw [← ll, List.take_length]
    have s2 := same_new hl2 (.lst ((liveF lo (mOf lo hi) F).map V.int))
    have h2 : upd H3 l2 (.lst ((liveF lo (mOf lo hi) F).map V.int)) l2 = some (.lst ((liveF lo (mOf lo hi) F).map V.int)) := upd_same
    have g2 := s1.trans s2
    generalize upd H3 l2 (.lst ((liveF lo (mOf lo hi) F).map V.int)) = H2' at s2 h2 g2 ⊢
    refine ⟨_, rfl, _, rfl, _, _, rfl, rfl, _, _, rfl, rng_of O.en, comp_range (n := mOf lo hi) (fun i ys σ H4 => Same H2' H4 ∧ (∃ v, σ = [v, some (.ref t)]) ∧ ys = ((rangeI lo i).filter (fun y => decide (y ∈ liveF lo (mOf lo hi) F))).map V.int)
      (small1000 (by (first | exact Nat.le_trans (by with_reducible assumption) (by decide +kernel) | omega))) ⟨Same.refl _, ⟨_, rfl⟩, rfl⟩ (fun i ys σ H4 ⟨_, _, e⟩ => by
        rw [e, List.length_map]
        exact Nat.le_trans (List.length_filter_le _ _) (by rw [rangeI_len]; exact Nat.le_refl _)) ?_ ?_⟩
    · rintro i ys σ H4 hi' ⟨s4, ⟨v, rfl⟩, rfl⟩
      have g4 := g2.trans s4
      refine ⟨_, rfl, _, rfl, t, rfl, ⟨_, SqT.of (g4 _ _ ht)⟩, comp_tup (K := K) (a := t) (xs := ws) (fun j zs σ H5 => H5 = H4 ∧ (∃ v, σ = [v]) ∧ zs = ((liveF lo (mOf lo hi) F).take j).map V.int)
        (small1000 (by omega)) ⟨rfl, ⟨_, rfl⟩, rfl⟩ (by rintro j zs σ H5 ⟨_, _, e⟩; rw [e, List.length_map, List.length_take]; (first | with_reducible exact Nat.min_le_left _ _ | omega)) (by rintro j zs σ H5 _ ⟨e, _⟩; rw [e]; exact SqT.of (g4 _ _ ht)) ?_ ?_⟩
      · rintro j x zs σ H5 hx ⟨rfl, ⟨v', rfl⟩, rfl⟩
        obtain ⟨e, he, t4, q2, rfl, ht4, hq2⟩ := tw.at hx
        obtain ⟨y, hy2, rfl⟩ := tabP_at he
        refine ⟨_, rfl, t4, _, _, .int y, rfl, rfl, SqT.of (g4 _ _ ht4), rfl, rfl, ⟨_, rfl⟩, ?_⟩
        rw [take_snoc hy2, List.map_append]
        rfl
      · rintro zs σ H5 ⟨rfl, _, rfl⟩ l5 hl5
        rw [← ll, List.take_length]
        refine ⟨l5, _, rfl, .inl (SqL.of upd_same), rfl, flat_ints _, _, rfl, ?_⟩
        have s5 := same_new hl5 (.lst ((liveF lo (mOf lo hi) F).map V.int))
        rw [rangeI_succ, List.filter_append]
        by_cases c : lo + (i : Int) ∈ liveF lo (mOf lo hi) F
        · refine iteP (by show inV _ _ = true; rw [in_ints]; exact decide_eq_true c) ⟨_, rfl, s4.trans s5, ⟨_, rfl⟩, ?_⟩
          rw [List.filter_cons_of_pos (by simpa using c), List.filter_nil, List.map_append]
          rfl
        · refine iteN (by show ¬ inV _ _ = true; rw [in_ints]; simpa using c) ⟨s4.trans s5, ⟨_, rfl⟩, ?_⟩
          rw [List.filter_cons_of_neg (by simpa using c), List.filter_nil, List.append_nil]
    rintro ys σ H4 ⟨s4, _, rfl⟩ l6 hl6
    rw [live_again]
    have s6 := same_new hl6 (.lst ((liveF lo (mOf lo hi) F).map V.int))
    have h6 : upd H4 l6 (.lst ((liveF lo (mOf lo hi) F).map V.int)) l6 = some (.lst ((liveF lo (mOf lo hi) F).map V.int)) := upd_same
    have h26 := (s4.trans s6) _ _ h2
    have g6 := g2.trans (s4.trans s6)
    generalize upd H4 l6 (.lst ((liveF lo (mOf lo hi) F).map V.int)) = H6 at s6 h6 h26 g6 ⊢
    refine ⟨.list ((liveF lo (mOf lo hi) F).map PyData.int), .list ((liveF lo (mOf lo hi) F).map PyData.int), ⟨l2, _, rfl, SqL.of h26, repL_ints _⟩, ⟨l6, _, rfl, SqL.of h6, repL_ints _⟩, shaped_intsL _, shaped_intsL _, nomix_ints _ _, _, rfl, ?_⟩
    refine iteN (by show ¬ (!Spec.same _ _) = true; simp [Spec.same, same_ints]) ?_
    exact fin2 _ g6
  obtain ⟨R1, hR1, fin1⟩ := key1
  refine ⟨_, (pss_cons (ps_if (PW.pt (pw_or (pt_not (pt_val (pe_callB call_isinst (by rfl) m_isinstance PyProof.Rows.boot_isinstance (pa_cons (pv 0) (pa_cons (pe_bltn (v := .ty "tuple") (by rfl) m_tuple PyProof.Rows.boot_tuple rfl) pa_nil))))) (pw_or1 (pt_not (pt_val (pe_callB call_all (by rfl) m_all PyProof.Rows.boot_all (pa_cons (pe_comp ["_law_one"] [none] (pi_tup (pv 0)) (fun _ _ _ _ => (pg_name (i := 0) (nd_IsT1) rfl (Or.inl rfl))) (fun _ _ _ _ => pf_nil) (fun _ _ _ _ => (pe_and (pe_callB (isinstK K) (by rfl) m_isinstance PyProof.Rows.boot_isinstance (pa_cons (pv 0) (pa_cons (pe_bltn (v := .ty "tuple") (by rfl) m_tuple PyProof.Rows.boot_tuple rfl) pa_nil))) (pe_one (pe_cmpR op_eq (pe_callB (lenK K) (by rfl) m_len PySem.boot_len (pa_cons (pv 0) pa_nil)) pe_int (nomark _)))))) pa_nil))))))) (pss_one (ps_ret pe_bl)) pss_nil)
    hR1), ?_⟩
  obtain ⟨ea, eb, ec⟩ := id O.en
  have m10 : mOf lo hi ≤ 10 := m10_of O.en
  have tl := tabP_len (lo := lo) (m := mOf lo hi) (w := W) (F := F)
  have wl := tw.length
  have ll : (liveF lo (mOf lo hi) F).length = ws.length := by rw [wl]; unfold tabP liveF; rw [List.length_map]
  refine ⟨_, rfl, _, _, _, true, rfl, .tup ht, rfl, _, rfl, ?_⟩
  refine ⟨_, rfl, t, rfl, ⟨_, SqT.of ht⟩, comp_tup (K := K) (a := t) (xs := ws) (fun i ys σ H2 => H2 = H ∧ (∃ v, σ = [v]) ∧ ys = (List.replicate i true).map V.bl)
    (small1000 (by omega)) ⟨rfl, ⟨_, rfl⟩, rfl⟩ (by rintro i ys σ H2 ⟨_, _, e⟩; rw [e, List.length_map, List.length_replicate]; exact Nat.le_refl _) (by rintro i ys σ H2 _ ⟨e, _⟩; rw [e]; exact SqT.of ht) ?_ ?_⟩
  · rintro i x ys σ H2 hx ⟨rfl, ⟨v, rfl⟩, rfl⟩
    obtain ⟨e, he, t4, q2, rfl, ht4, hq2⟩ := tw.at hx
    refine ⟨_, rfl, _, _, _, true, rfl, .tup ht4, rfl, _, rfl, ?_⟩
    refine ⟨_, rfl, t4, _, rfl, .inr (SqT.of ht4), rfl, rfl, ⟨_, rfl⟩, ?_⟩
    rw [List.replicate_succ', List.map_append]
    rfl
  rintro ys σ H2 ⟨rfl, _, rfl⟩ l1 hl1
  refine ⟨l1, List.replicate ws.length true, rfl, SqL.of upd_same, ?_⟩
  have er : (List.replicate ws.length true).all id = true := by simp
  rw [er]
  refine ⟨_, rfl, ?_⟩
  refine iteN (by simp) ?_
  exact fin1 _ (same_new hl1 _)
end
end Mine
namespace Mine
open PySem L2
section
variable {P : Program} {w : World} {K : PySem.W.Frag} {mg : Str → Option Value} {base : Heap}
theorem scLPow : FnScope ["_law_number", "_law_many", "_law_found", "_law_turn"] ["_law_number", "_law_many"] (defScope sLPow) := ⟨rfl, rfl, rfl, by decide +kernel, rfl, by decide +kernel, by decide +kernel⟩
theorem ok_LPow {f : Addr} {fd : FuncData} (F : Fun K "_law_power" "_law_power" sLPow f fd)
    (m_range : mg "range" = none) :
    FnOk P w K mg base CX0 1 f fd ["_law_number", "_law_many"] spLPow := by
  refine F.ok scLPow (fun vs H Q E h => ?_) (fun cdv A outer s H vs Q E hr h => ?_)
  · obtain ⟨a, n, rfl, _⟩ := h
    rfl
  obtain ⟨a, n, rfl, a0, a9, n0, n1, k⟩ := h
  have hu := hu_of hr
  refine ⟨_, (pss_cons (ps_set (i := 2) scLPow.nd rfl (Or.inl rfl) pe_int)
    (pss_cons (ps_for PassesOwn.never rfl (pi_range1 (by rfl) m_range (pa_cons (pv 1) pa_nil)) (pg_name (i := 3) scLPow.nd rfl (Or.inl rfl))
    (pss_one (ps_set (i := 2) scLPow.nd rfl (Or.inl rfl) (pe_op op_mulB (pv 2) (pv 0)))))
    (pss_one (ps_ret (pv 2))))), ?_⟩
  refine ⟨_, rfl, _, rfl, by omega, by (first | exact Int.lt_of_le_of_lt (by with_reducible assumption) (by decide +kernel) | omega), for_rangeA (n := n.toNat) (fun i σ H1 => H1 = H ∧ ∃ v, σ = [some (.int a), some (.int n), some (.int (a ^ i)), v])
    ⟨rfl, none, by rw [Int.pow_zero]; rfl⟩ ?_ ?_⟩
  · rintro D' i σ H1 hi ⟨rfl, v, rfl⟩
    have e1 := pow9 (n := i) a0 a9 (by omega)
    refine ⟨_, rfl, _, rfl, _, _, rfl, rfl, ⟨⟨by omega, by omega⟩, ⟨by (first | exact Int.lt_of_lt_of_le (b := 0) (by decide +kernel) (by with_reducible assumption) | omega), by (first | exact Int.lt_of_le_of_lt (by with_reducible assumption) (by decide +kernel) | omega)⟩⟩, ?_⟩
    refine ⟨rfl, some (.int (0 + (i : Int))), ?_⟩
    rw [Int.pow_succ]
    rfl
  · rintro σ H1 ⟨rfl, v, rfl⟩
    exact ⟨_, rfl, k⟩
end
end Mine
namespace Mine
open PySem L2
section
variable {P : Program} {w : World} {K : PySem.W.Frag} {mg : Str → Option Value} {base : Heap}
theorem nd_Rows1 : (["rung", "a", "b", "low", "high"] : List Str).Nodup := by decide +kernel
theorem nd_Rows2 : (["rung", "a", "b", "low", "high"] : List Str).Nodup := by decide +kernel
theorem scRows : FnScope ["a", "b", "low", "high"] ["a", "b", "low", "high"] (defScope sRows) := ⟨rfl, rfl, rfl, by decide +kernel, rfl, by decide +kernel, by decide +kernel⟩
theorem ok_Rows {f : Addr} {fd : FuncData} (F : Fun K "rows_between" "rows_between" sRows f fd)
    {cR D : Addr} (m_NoRows : mg "NoRows" = some (.ref cR)) (M_NoRows : XMk K cR D none)
    {f_Less : Addr} {d_Less : FuncData} (G_Less : FnOk P w K mg base CX0 1 f_Less d_Less ["one", "other"] spLessF) (b_Less : Binds K d_Less ["one", "other"] []) (k_Less : PySem.W.keepIn K (.ref f_Less) = true) (m_Less : mg "less" = some (.ref f_Less))
    {f_Row : Addr} {d_Row : FuncData} (G_Row : FnOk P w K mg base CX0 7 f_Row d_Row ["a", "b", "low", "high", "rung"] spRow) (b_Row : Binds K d_Row ["a", "b", "low", "high", "rung"] []) (k_Row : PySem.W.keepIn K (.ref f_Row) = true) (m_Row : mg "row_between" = some (.ref f_Row))
    (m_tuple : mg "tuple" = none) (m_range : mg "range" = none) :
    FnOk P w K mg base (CX1 P w) 8 f fd ["a", "b", "low", "high"] (spRowsX cR) := by
  refine F.okX scRows (fun vs H Q E h => ?_) (fun cdv A outer s H vs Q E hr h => ?_)
  · obtain ⟨p, q, a, b, lo, hi, rfl, _⟩ := h
    rfl
  obtain ⟨p, q, a, b, lo, hi, rfl, hp, hq, ha, hb, en, way⟩ := h
  have hu := hu_of hr
  have hr1 : Room 1 _ := hr.mono (by decide)
  have hr7 : Room 7 _ := hr.mono (by decide)
  refine ⟨_, (pss_cons (ps_if (pt_val (pe_call G_Less hr1 (by rfl) m_Less k_Less b_Less .nil pass0 (pa_cons (pv 1) (pa_cons (pv 0) pa_nil)))) (pss_one (ps_raise0 (by rfl) m_NoRows M_NoRows)) pss_nil)
    (pss_one (ps_ret (pe_callTy call_tuple_of (by rfl) m_tuple PyProof.Rows.boot_tuple (pa_cons (pe_comp ["rung", "a", "b", "low", "high"] [none, some 0, some 1, some 2, some 3] (pi_range2 (by rfl) m_range (pa_cons (pv 2) (pa_cons (pe_op op_add (pv 3) pe_int) pa_nil))) (fun _ _ _ _ => (pg_name (i := 0) (nd_Rows2) rfl (Or.inl rfl))) (fun _ _ _ _ => pf_nil) (fun _ _ _ _ => (pe_call G_Row hr7 (by rfl) m_Row k_Row b_Row .nil pass0 (pa_cons (pv 1) (pa_cons (pv 2) (pa_cons (pv 3) (pa_cons (pv 4) (pa_cons (pv 0) pa_nil)))))))) pa_nil))))), ?_⟩
  have na := stp_nat a ha
  have nb := stp_nat b hb
  refine ⟨_, rfl, _, rfl, q, p, b.1, b.2, a.1, a.2, rfl, hq, hp, b72_of (by (first | with_reducible exact Int.natCast_nonneg _ | omega)) (by omega), b72_of (by (first | with_reducible exact Int.natCast_nonneg _ | omega)) (by omega), b72_of (by (first | with_reducible exact Int.natCast_nonneg _ | omega)) (by omega), b72_of (by (first | with_reducible exact Int.natCast_nonneg _ | omega)) (by omega), _, rfl, ?_⟩
  rcases way with ⟨ab, k⟩ | ⟨gt, k⟩
  rotate_left
  · have yes : decide ((b.1 : Int) * a.2 < a.1 * b.2) = true := decide_eq_true (by rw [← Int.natCast_mul, ← Int.natCast_mul]; omega)
    exact iteP yes (k _ (Same.refl _))
  have f := mv_facts ab
  obtain ⟨ea, eb, ec⟩ := id en
  obtain ⟨a1, a2, a3, b1, b2, b3, x1, x2, y1, y2, z1, z2, u1, u2⟩ := id f
  have no : decide ((b.1 : Int) * a.2 < a.1 * b.2) = false := decide_eq_false (by rw [Int.mul_comm]; omega)
  rw [no]
  refine iteF ?_
  have m10 : mOf lo hi ≤ 10 := m10_of en
  refine ⟨_, rfl, _, rfl, _, _, rfl, rfl, _, _, rfl, rng_of en, comp_range (n := mOf lo hi) (fun i zs σ H2 => Same H H2 ∧ (∃ v, σ = [v, some (.ref p), some (.ref q), some (.int lo), some (.int hi)]) ∧ Two (RwAt H2) zs ((rangeI lo i).map (rowP a b lo hi)))
    (small1000 (by (first | exact Nat.le_trans (by with_reducible assumption) (by decide +kernel) | omega))) ⟨Same.refl _, ⟨_, rfl⟩, trivial⟩ (by rintro i zs σ H2 ⟨_, _, e⟩; rw [e.length, List.length_map, rangeI_len]; exact Nat.le_refl _) ?_ ?_⟩
  · rintro i zs σ H2 hi' ⟨s2, ⟨v, rfl⟩, tw⟩
    refine ⟨_, rfl, _, rfl, _, rfl, _, rfl, _, rfl, p, q, a, b, lo, hi, lo + i, rfl, s2 _ _ hp, s2 _ _ hq, ab, en, by (first | with_reducible exact Int.le_add_of_nonneg_right (Int.natCast_nonneg _) | omega), mOf_le hi', fun H3 t ws s3 ht tw3 => ?_⟩
    refine ⟨s2.trans s3, ⟨_, rfl⟩, ?_⟩
    rw [rangeI_succ, List.map_append]
    exact Two.append (rows_ts (.of s3) tw) ⟨⟨t, ws, rfl, ht, tw3⟩, trivial⟩
  rintro zs σ H2 ⟨s2, _, tw⟩ lb hlb
  refine ⟨lb, _, rfl, .inl ⟨SqL.of upd_same, fun u hu' => ?_⟩⟩
  exact k _ u zs (s2.trans ((same_new hlb _).trans (same_new hu' _))) upd_same (rows_ts (.of ((same_new hlb _).trans (same_new hu' _))) tw)
end
end Mine
namespace Mine
open PySem L2
section
variable {P : Program} {w : World} {K : PySem.W.Frag} {mg : Str → Option Value} {base : Heap}
theorem scRef : FnScope ["_law_e", "_law_others"] ["_law_e"] (defScope sRef) := ⟨rfl, rfl, rfl, by decide +kernel, rfl, by decide +kernel, by decide +kernel⟩
theorem ok_Ref {f : Addr} {fd : FuncData} (F : Fun K "_law_refused" "_law_refused" sRef f fd)
    {cR cF cP cG cW cT cM D : Addr} (m_NoRows : mg "NoRows" = some (.ref cR)) (m_NoFit : mg "NoFit" = some (.ref cF)) (m_NoPaper : mg "NoPaper" = some (.ref cP)) (m_NoProgram : mg "NoProgram" = some (.ref cG)) (m_NoRow : mg "NoRow" = some (.ref cW)) (m_NoText : mg "NoText" = some (.ref cT)) (m_TooMany : mg "TooMany" = some (.ref cM)) (m_ThrowError : mg "ThrowError" = some (.ref D)) (XF : XFam1 K cR [cF, cP, cG, cW, cT, cM] D)
    (m_isinstance : mg "isinstance" = none) (m_ValueError : mg "ValueError" = none) :
    FnOkH P w K mg base 1 f fd ["_law_e"] (spRef cR) := by
  refine F.okH scRef (fun vs H Q E h => ?_) (fun cdv A outer s H vs Q E h => ?_)
  · obtain ⟨x, rfl, _⟩ := h
    rfl
  obtain ⟨x, rfl, hx, k⟩ := h
  refine ⟨_, (pss_cons (ps_set (i := 1) scRef.nd rfl (Or.inl rfl) (pe_callB call_isN (by rfl) m_isinstance PyProof.Rows.boot_isinstance (pa_cons (pv 0) (pa_cons (pe_tup (pa_cons (pe_glob (v := .ref cF) (by rfl) m_NoFit rfl) (pa_cons (pe_glob (v := .ref cP) (by rfl) m_NoPaper rfl) (pa_cons (pe_glob (v := .ref cG) (by rfl) m_NoProgram rfl) (pa_cons (pe_glob (v := .ref cW) (by rfl) m_NoRow rfl) (pa_cons (pe_glob (v := .ref cT) (by rfl) m_NoText rfl) (pa_cons (pe_glob (v := .ref cM) (by rfl) m_TooMany rfl) pa_nil))))))) pa_nil))))
    (pss_one (ps_ret (pe_and (pe_callB call_isX (by rfl) m_isinstance PyProof.Rows.boot_isinstance (pa_cons (pv 0) (pa_cons (pe_glob (v := .ref cR) (by rfl) m_NoRows rfl) pa_nil))) (pe_and (pe_callB call_isX (by rfl) m_isinstance PyProof.Rows.boot_isinstance (pa_cons (pv 0) (pa_cons (pe_glob (v := .ref D) (by rfl) m_ThrowError rfl) pa_nil))) (pe_and (pe_callB call_isX (by rfl) m_isinstance PyProof.Rows.boot_isinstance (pa_cons (pv 0) (pa_cons (pe_bltn (v := .ty "ValueError") (by rfl) m_ValueError boot_VE rfl) pa_nil))) (pe_one (pe_not (pv 1))))))))), ?_⟩
  refine ⟨_, rfl, by show 6 ≤ sizeLine; decide, fun t ht => ?_⟩
  have s1 := same_new ht (.tup [.ref cF, .ref cP, .ref cG, .ref cW, .ref cT, .ref cM])
  have h1 : upd H t (.tup [.ref cF, .ref cP, .ref cG, .ref cW, .ref cT, .ref cM]) t = some (.tup [.ref cF, .ref cP, .ref cG, .ref cW, .ref cT, .ref cM]) := upd_same
  generalize upd H t (.tup [.ref cF, .ref cP, .ref cG, .ref cW, .ref cT, .ref cM]) = H1 at s1 h1 ⊢
  have hx1 := s1 _ _ hx
  refine ⟨x, t, cR, D, [cF, cP, cG, cW, cT, cM], rfl, SqT.of h1, .inl hx1, XF.over, XF.is, fun c hc => XF.kit hc, ?_⟩
  refine ⟨_, rfl, x, .ref cR, cR, D, true, rfl, ⟨cR, .inl ⟨rfl, XF.self⟩⟩, .inl hx1, XF.over, XF.is, _, rfl, ?_⟩
  refine ⟨_, rfl, x, .ref D, cR, D, true, rfl, ⟨D, .inl ⟨rfl, XF.up⟩⟩, .inl hx1, XF.over, XF.is, _, rfl, ?_⟩
  refine ⟨_, rfl, x, .ty "ValueError", cR, D, true, rfl, ⟨D, .inr ⟨_, rfl, XF.ve⟩⟩, .inl hx1, XF.over, XF.is, _, rfl, ?_⟩
  exact ⟨_, rfl, _, rfl, k _ s1⟩
end
end Mine
namespace Mine
open PySem L2
section
variable {P : Program} {w : World} {K : PySem.W.Frag} {mg : Str → Option Value} {base : Heap}
theorem scTold : FnScope ["_law_a", "_law_b", "_law_low", "_law_high", "_law_found", "_law_e"] ["_law_a", "_law_b", "_law_low", "_law_high"] (defScope sTold) := ⟨rfl, rfl, rfl, by decide +kernel, rfl, by decide +kernel, by decide +kernel⟩
theorem ok_Told {f : Addr} {fd : FuncData} (F : Fun K "_law_told" "_law_told" sTold f fd)
    {cR D : Addr} (m_ThrowError : mg "ThrowError" = some (.ref D)) (U : XUp K D) (XO : XOver K cR D)
    {f_Rows : Addr} {d_Rows : FuncData} (G_Rows : FnOk P w K mg base (CX1 P w) 8 f_Rows d_Rows ["a", "b", "low", "high"] (spRowsX cR)) (b_Rows : Binds K d_Rows ["a", "b", "low", "high"] []) (k_Rows : PySem.W.keepIn K (.ref f_Rows) = true) (m_Rows : mg "rows_between" = some (.ref f_Rows))
    {f_Ref : Addr} {d_Ref : FuncData} (G_Ref : FnOkH P w K mg base 1 f_Ref d_Ref ["_law_e"] (spRef cR)) (b_Ref : Binds K d_Ref ["_law_e"] []) (k_Ref : PySem.W.keepIn K (.ref f_Ref) = true) (m_Ref : mg "_law_refused" = some (.ref f_Ref))
     :
    FnOk P w K mg base CX0 9 f fd ["_law_a", "_law_b", "_law_low", "_law_high"] spTold := by
  refine F.ok0 scTold (fun vs H Q E h => ?_) (fun cdv A outer s H vs Q E hr h => ?_)
  · obtain ⟨p, q, a, b, lo, hi, rfl, _⟩ := h
    rfl
  obtain ⟨p, q, a, b, lo, hi, rfl, hp, hq, ha, hb, en, way⟩ := h
  have hu := hu_of hr
  have hr1 : Room 1 _ := hr.mono (by decide)
  have hr8 : Room 8 _ := hr.mono (by decide)
  refine ⟨_, p0_cons (PS.p0 (ps_set (i := 4) scTold.nd rfl (Or.inl rfl) pe_str))
    (p0_cons (ps0_try (i := 5) rfl rfl rfl scTold.nd rfl rfl rfl (by rfl) m_ThrowError U
      (fun Ex E1 ps => pss_one (ps_set (i := 4) scTold.nd rfl (Or.inl rfl) (pe_call G_Rows hr8 (by rfl) m_Rows k_Rows b_Rows .nil ps (pa_cons (pv 0) (pa_cons (pv 1) (pa_cons (pv 2) (pa_cons (pv 3) pa_nil)))))))
      (fun x => pss_one (ps_if (pt_val (pe_callH G_Ref (hr1.h _) (by rfl) m_Ref k_Ref b_Ref (pa_cons (pv 5) pa_nil))) (pss_one (ps_set (i := 4) scTold.nd rfl (Or.inl rfl) pe_str)) pss_nil)))
    (PSs.p0 (pss_one (ps_ret (pv 4))))), ?_⟩
  refine ⟨_, rfl, _, rfl, _, rfl, _, rfl, p, q, a, b, lo, hi, rfl, hp, hq, ha, hb, en, ?_⟩
  rcases way with ⟨ab, k⟩ | ⟨gt, k⟩
  · exact .inl ⟨ab, fun H1 t rs s1 ht tw => ⟨_, rfl, k H1 t rs s1 ht tw⟩⟩
  · refine .inr ⟨gt, fun H1 s1 => ⟨cR, rfl, XO, fun σ x hl hx => ?_⟩⟩
    obtain ⟨v0, v1, v2, v3, v4, v5, rfl⟩ := len6 hl
    refine ⟨_, rfl, x, rfl, upd_same, fun H2 s2 => ⟨_, rfl, ?_⟩⟩
    exact iteP rfl ⟨_, rfl, k H2 (s1.trans ((same_new hx _).trans s2))⟩
end
end Mine
namespace Mine
open PySem L2
section
variable {P : Program} {w : World} {K : PySem.W.Frag} {mg : Str → Option Value} {base : Heap}
theorem nd_Right1 : (["_law_row", "_law_low", "_law_high"] : List Str).Nodup := by decide +kernel
theorem scRight : FnScope ["_law_a", "_law_b", "_law_low", "_law_high", "_law_rows", "_law_n"] ["_law_a", "_law_b", "_law_low", "_law_high"] (defScope sRight) := ⟨rfl, rfl, rfl, by decide +kernel, rfl, by decide +kernel, by decide +kernel⟩
theorem ok_Right {f : Addr} {fd : FuncData} (F : Fun K "_law_right" "_law_right" sRight f fd)
    {f_Told : Addr} {d_Told : FuncData} (G_Told : FnOk P w K mg base CX0 9 f_Told d_Told ["_law_a", "_law_b", "_law_low", "_law_high"] spTold) (b_Told : Binds K d_Told ["_law_a", "_law_b", "_law_low", "_law_high"] []) (k_Told : PySem.W.keepIn K (.ref f_Told) = true) (m_Told : mg "_law_told" = some (.ref f_Told))
    {f_Comes : Addr} {d_Comes : FuncData} (G_Comes : FnOk P w K mg base CX0 2 f_Comes d_Comes ["_law_first", "_law_rows", "_law_second", "_law_low", "_law_high"] spComes) (b_Comes : Binds K d_Comes ["_law_first", "_law_rows", "_law_second", "_law_low", "_law_high"] []) (k_Comes : PySem.W.keepIn K (.ref f_Comes) = true) (m_Comes : mg "_law_comes" = some (.ref f_Comes))
    {f_IsT : Addr} {d_IsT : FuncData} (G_IsT : FnOk P w K mg base CX0 2 f_IsT d_IsT ["_law_table", "_law_low", "_law_high"] spIsT) (b_IsT : Binds K d_IsT ["_law_table", "_law_low", "_law_high"] []) (k_IsT : PySem.W.keepIn K (.ref f_IsT) = true) (m_IsT : mg "_law_is_table" = some (.ref f_IsT))
    {f_LLad : Addr} {d_LLad : FuncData} (G_LLad : FnOk P w K mg base CX0 2 f_LLad d_LLad ["_law_steepness_here", "_law_low", "_law_high", "_law_n"] spLLad) (b_LLad : Binds K d_LLad ["_law_steepness_here", "_law_low", "_law_high", "_law_n"] []) (k_LLad : PySem.W.keepIn K (.ref f_LLad) = true) (m_LLad : mg "_law_ladder" = some (.ref f_LLad))
    (m_range : mg "range" = none) (m_all : mg "all" = none) (m_isinstance : mg "isinstance" = none) (m_tuple : mg "tuple" = none) (m_len : mg "len" = none) :
    FnOk P w K mg base CX0 10 f fd ["_law_a", "_law_b", "_law_low", "_law_high"] spRight := by
  refine F.ok scRight (fun vs H Q E h => ?_) (fun cdv A outer s H vs Q E hr h => ?_)
  · obtain ⟨p, q, a, b, lo, hi, rfl, _⟩ := h
    rfl
  obtain ⟨p, q, a, b, lo, hi, rfl, hp, hq, ha, hb, en, k⟩ := h
  have hu := hu_of hr
  have hr1 : Room 1 _ := hr.mono (by decide)
  have hr2 : Room 2 _ := hr.mono (by decide)
  have hr9 : Room 9 _ := hr.mono (by decide)
  refine ⟨_, (pss_cons (ps_set (i := 4) scRight.nd rfl (Or.inl rfl) (pe_call G_Told hr9 (by rfl) m_Told k_Told b_Told .nil pass0 (pa_cons (pv 0) (pa_cons (pv 1) (pa_cons (pv 2) (pa_cons (pv 3) pa_nil))))))
    (pss_cons (ps_if (pt_cmpR op_gt (pe_op op_mul (pe_ix ix_tup (pv 0) pe_int (fun _ _ => rfl)) (pe_ix ix_tup (pv 1) pe_int (fun _ _ => rfl))) (pe_op op_mul (pe_ix ix_tup (pv 1) pe_int (fun _ _ => rfl)) (pe_ix ix_tup (pv 0) pe_int (fun _ _ => rfl))) (nomark _)) (pss_one (ps_ret (pe_cmpR op_eq (pv 4) pe_str (nomark _)))) pss_nil)
    (pss_cons (ps_if (PW.pt (pw_or (pt_not (pt_val (pe_callB call_isinst (by rfl) m_isinstance PyProof.Rows.boot_isinstance (pa_cons (pv 4) (pa_cons (pe_bltn (v := .ty "tuple") (by rfl) m_tuple PyProof.Rows.boot_tuple rfl) pa_nil))))) (pw_or1 (pt_cmpR op_ne (pe_callB call_len_seq (by rfl) m_len PySem.boot_len (pa_cons (pv 4) pa_nil)) (pe_op op_add (pe_op op_sub (pv 3) (pv 2)) pe_int) (nomark _))))) (pss_one (ps_ret pe_bl)) pss_nil)
    (pss_cons (ps_if (pt_not (pt_val (pe_callB call_all (by rfl) m_all PyProof.Rows.boot_all (pa_cons (pe_comp ["_law_row", "_law_low", "_law_high"] [none, some 2, some 3] (pi_tup (pv 4)) (fun _ _ _ _ => (pg_name (i := 0) (nd_Right1) rfl (Or.inl rfl))) (fun _ _ _ _ => pf_nil) (fun _ _ _ _ => (pe_call G_IsT hr2 (by rfl) m_IsT k_IsT b_IsT .nil pass0 (pa_cons (pv 0) (pa_cons (pv 1) (pa_cons (pv 2) pa_nil)))))) pa_nil)))) (pss_one (ps_ret pe_bl)) pss_nil)
    (pss_cons (ps_for PassesOwn.never rfl (pi_range2 (by rfl) m_range (pa_cons (pv 2) (pa_cons (pe_op op_add (pv 3) pe_int) pa_nil))) (pg_name (i := 5) scRight.nd rfl (Or.inl rfl))
    (pss_one (ps_if (pt_not (pt_val (pe_call G_Comes hr2 (by rfl) m_Comes k_Comes b_Comes .nil pass0 (pa_cons (pe_call G_LLad hr2 (by rfl) m_LLad k_LLad b_LLad .nil pass0 (pa_cons (pv 0) (pa_cons (pv 2) (pa_cons (pv 3) (pa_cons (pv 5) pa_nil))))) (pa_cons (pv 4) (pa_cons (pe_call G_LLad hr2 (by rfl) m_LLad k_LLad b_LLad .nil pass0 (pa_cons (pv 1) (pa_cons (pv 2) (pa_cons (pv 3) (pa_cons (pv 5) pa_nil))))) (pa_cons (pv 2) (pa_cons (pv 3) pa_nil)))))))) (pss_one (ps_ret pe_bl)) pss_nil)))
    (pss_one (ps_ret pe_bl))))))), ?_⟩
  have na := stp_nat a ha
  have nb := stp_nat b hb
  obtain ⟨ea, eb, ec⟩ := id en
  have m10 : mOf lo hi ≤ 10 := m10_of en
  refine ⟨_, rfl, _, rfl, _, rfl, _, rfl, p, q, a, b, lo, hi, rfl, hp, hq, ha, hb, en, ?_⟩
  rcases pair_or ha hb with ab | gt
  · refine .inl ⟨ab, fun H1 t rs s1 ht tw => ?_⟩
    have le := ab.le
    have rl : rs.length = mOf lo hi := by rw [tw.length, List.length_map, rangeI_len]
    refine ⟨_, rfl, p, _, _, _, rfl, rfl, SqT.of (s1 _ _ hp), ix0 _ _, _, rfl, q, _, _, _, rfl, rfl, SqT.of (s1 _ _ hq), ix1 _ _, _, _, rfl, rfl, .inl (in64 (by omega)), ?_⟩
    refine ⟨_, rfl, q, _, _, _, rfl, rfl, SqT.of (s1 _ _ hq), ix0 _ _, _, rfl, p, _, _, _, rfl, rfl, SqT.of (s1 _ _ hp), ix1 _ _, _, _, rfl, rfl, .inl (in64 (by omega)), _, _, rfl, rfl, _, rfl, ?_⟩
    refine iteN (by rw [decide_eq_true_eq, ← Int.natCast_mul, ← Int.natCast_mul]; omega) ?_
    refine ⟨_, rfl, _, _, _, true, rfl, .tup ht, rfl, _, rfl, ?_⟩
    refine ⟨_, rfl, t, _, rfl, .inr (SqT.of ht), _, rfl, _, rfl, _, _, rfl, rfl, _, _, rfl, rfl, rfl, _, rfl, ?_⟩
    refine iteN (by rw [rl]; unfold mOf; simp; omega) ?_
    refine ⟨_, rfl, t, rfl, ⟨_, SqT.of ht⟩, comp_tup (K := K) (a := t) (xs := rs) (fun i ys σ H2 => Same H1 H2 ∧ (∃ v, σ = [v, some (.int lo), some (.int hi)]) ∧ ys = (List.replicate i true).map V.bl)
      (small1000 (by omega)) ⟨Same.refl _, ⟨_, rfl⟩, rfl⟩ (by rintro i ys σ H2 ⟨_, _, e⟩; rw [e, List.length_map, List.length_replicate]; exact Nat.le_refl _) (by rintro i ys σ H2 _ ⟨e, _⟩; exact SqT.of (e _ _ ht)) ?_ ?_⟩
    · rintro i v ys σ H2 hv ⟨s2, ⟨v', rfl⟩, rfl⟩
      have hj : i < mOf lo hi := by rw [← rl]; exact (List.getElem?_eq_some_iff.mp hv).1
      obtain ⟨es, hes, q0, ws, rfl, hq0, tww⟩ := tw.at hv
      rw [List.getElem?_map, rangeI_get hj] at hes
      have ee : es = rowP a b lo hi (lo + (i : Int)) := (Option.some.inj hes).symm
      subst ee
      refine ⟨_, rfl, _, rfl, _, rfl, q0, ws, lo, hi, wB a b (nOf lo hi), rowG a b lo (nOf lo hi) (lo + (i : Int)), rfl, s2 _ _ hq0, tab_ts (.of s2) tww, row_one ab en (by (first | with_reducible exact Int.le_add_of_nonneg_right (Int.natCast_nonneg _) | omega)) (mOf_le hj), fun H3 s3 => ⟨s2.trans s3, ⟨_, rfl⟩, ?_⟩⟩
      rw [List.replicate_succ', List.map_append]
      rfl
    rintro ys σ H2 ⟨s2, _, rfl⟩ l3 hl3
    refine ⟨l3, List.replicate rs.length true, rfl, SqL.of upd_same, ?_⟩
    have er : (List.replicate rs.length true).all id = true := by simp
    rw [er]
    refine ⟨_, rfl, ?_⟩
    have s3 := s2.trans (same_new hl3 (.lst ((List.replicate rs.length true).map V.bl)))
    generalize upd H2 l3 (.lst ((List.replicate rs.length true).map V.bl)) = H3 at s3 ⊢
    refine ⟨_, rfl, _, rfl, _, _, rfl, rfl, _, _, rfl, rng_of en, for_rangeA (n := mOf lo hi) (fun i σ H4 => ∃ v5, σ = [some (.ref p), some (.ref q), some (.int lo), some (.int hi), some (.ref t), v5] ∧ Same H1 H4)
      ⟨_, rfl, s3⟩ ?_ ?_⟩
    · rintro D' i σ H4 hi' ⟨v5, rfl, s4⟩
      have hn : lo + (i : Int) ≤ hi := mOf_le hi'
      have g4 := s1.trans s4
      refine ⟨_, rfl, _, rfl, _, rfl, _, rfl, p, a.1, a.2, lo, hi, lo + (i : Int), rfl, g4 _ _ hp, stp_ok ha, en, by (first | with_reducible exact Int.le_add_of_nonneg_right (Int.natCast_nonneg _) | omega), hn, fun H5 l1 us1 s5 h5 t5 => ?_⟩
      refine ⟨_, rfl, _, rfl, _, rfl, _, rfl, _, rfl, q, b.1, b.2, lo, hi, lo + (i : Int), rfl, (g4.trans s5) _ _ hq, stp_ok hb, en, by (first | with_reducible exact Int.le_add_of_nonneg_right (Int.natCast_nonneg _) | omega), hn, fun H6 l2 us2 s6 h6 t6 => ?_⟩
      have s46 := s4.trans (s5.trans s6)
      exact ⟨_, rfl, _, rfl, l1, t, l2, us1, rs, us2, a, b, lo, hi, lo + (i : Int), rfl, s6 _ _ h5, t5.mono fun _ _ z => FrR.ts (.of s6) z, s46 _ _ ht, rows_ts (.of s46) tw, h6, t6, ab, en, by (first | with_reducible exact Int.le_add_of_nonneg_right (Int.natCast_nonneg _) | omega), hn, fun H7 s7 => ⟨_, rfl, _, rfl, s46.trans s7⟩⟩
    · rintro σ H4 ⟨v5, rfl, s4⟩
      exact k _ (s1.trans s4)
  · refine .inr ⟨gt, fun H1 s1 => ?_⟩
    refine ⟨_, rfl, p, _, _, _, rfl, rfl, SqT.of (s1 _ _ hp), ix0 _ _, _, rfl, q, _, _, _, rfl, rfl, SqT.of (s1 _ _ hq), ix1 _ _, _, _, rfl, rfl, .inl (in64 (by omega)), ?_⟩
    refine ⟨_, rfl, q, _, _, _, rfl, rfl, SqT.of (s1 _ _ hq), ix0 _ _, _, rfl, p, _, _, _, rfl, rfl, SqT.of (s1 _ _ hp), ix1 _ _, _, _, rfl, rfl, .inl (in64 (by omega)), _, _, rfl, rfl, _, rfl, ?_⟩
    refine iteP (by rw [decide_eq_true_eq, ← Int.natCast_mul, ← Int.natCast_mul]; omega) ?_
    refine ⟨_, rfl, rfl, ?_⟩
    have e : decide (V.str "refused" = V.str "refused") = true := decide_eq_true rfl
    rw [e]
    exact k _ s1
end
end Mine
namespace Mine
open PySem L2
section
variable {P : Program} {w : World} {K : PySem.W.Frag} {mg : Str → Option Value} {base : Heap}
theorem nd_Law1 : (["_law_one", "_law_two", "_law_least", "_law_most"] : List Str).Nodup := by decide +kernel
theorem scLaw : FnScope ["_law_script", "_law_deal_here", "_law_a", "_law_b", "_law_low", "_law_high", "_law_other", "_law_end", "_law_some"] ["_law_script"] (defScope sLaw) := ⟨rfl, rfl, rfl, by decide +kernel, rfl, by decide +kernel, by decide +kernel⟩
theorem ok_Law {f : Addr} {fd : FuncData} (F : Fun K "law" "law" sLaw f fd)
    {f_Deal : Addr} {d_Deal : FuncData} (G_Deal : FnOk P w K mg base CX0 1 f_Deal d_Deal ["_law_script", "_law_base"] (spDeal K)) (b_Deal : Binds K d_Deal ["_law_script", "_law_base"] []) (k_Deal : PySem.W.keepIn K (.ref f_Deal) = true) (m_Deal : mg "_law_deal" = some (.ref f_Deal))
    {f_Stp : Addr} {d_Stp : FuncData} (G_Stp : FnOk P w K mg base CX0 2 f_Stp d_Stp ["_law_deal_here", "_law_most"] spStp) (b_Stp : Binds K d_Stp ["_law_deal_here", "_law_most"] []) (k_Stp : PySem.W.keepIn K (.ref f_Stp) = true) (m_Stp : mg "_law_steepness" = some (.ref f_Stp))
    {f_Draw : Addr} {d_Draw : FuncData} (G_Draw : FnOk P w K mg base CX0 1 f_Draw d_Draw ["_law_deal_here", "_law_many"] spDraw) (b_Draw : Binds K d_Draw ["_law_deal_here", "_law_many"] []) (k_Draw : PySem.W.keepIn K (.ref f_Draw) = true) (m_Draw : mg "_law_draw" = some (.ref f_Draw))
    {f_Right : Addr} {d_Right : FuncData} (G_Right : FnOk P w K mg base CX0 10 f_Right d_Right ["_law_a", "_law_b", "_law_low", "_law_high"] spRight) (b_Right : Binds K d_Right ["_law_a", "_law_b", "_law_low", "_law_high"] []) (k_Right : PySem.W.keepIn K (.ref f_Right) = true) (m_Right : mg "_law_right" = some (.ref f_Right))
    (m_all : mg "all" = none) (m_min : mg "min" = none) (m_max : mg "max" = none) :
    FnOk P w K mg base CX0 11 f fd ["_law_script"] (spLaw K) := by
  refine F.ok scLaw (fun vs H Q E h => ?_) (fun cdv A outer s H vs Q E hr h => ?_)
  · obtain ⟨s0, ns, rfl, _⟩ := h
    rfl
  obtain ⟨s0, ns, rfl, hs, hl, k⟩ := h
  have hu := hu_of hr
  have hr1 : Room 1 _ := hr.mono (by decide)
  have hr2 : Room 2 _ := hr.mono (by decide)
  have hr10 : Room 10 _ := hr.mono (by decide)
  have key : ∃ R : L2.TS, PSs (cxOf CX0 P w K mg base ["_law_script", "_law_deal_here", "_law_a", "_law_b", "_law_low", "_law_high", "_law_other", "_law_end", "_law_some"] "law" (defScope sLaw) f cdv A outer s H E).nox (List.drop 4 (defBody sLaw)) R ∧ ∀ (d l p q : Addr) (a b : Nat × Nat) (HX : Hp), Deal HX d l → TupAt HX p a.1 a.2 → TupAt HX q b.1 b.2 → a ∈ stps → b ∈ stps →
      R { nx := fun _ H' => Q .non H', rt := Q } [some (.ref s0), some (.ref d), some (.ref p), some (.ref q), none, none, none, none, none] HX := by
    refine ⟨_, (pss_cons (ps_set (i := 4) scLaw.nd rfl (Or.inl rfl) (pe_call G_Draw hr1 (by rfl) m_Draw k_Draw b_Draw .nil pass0 (pa_cons (pv 1) (pa_cons pe_int pa_nil))))
    (pss_cons (ps_set (i := 5) scLaw.nd rfl (Or.inl rfl) (pe_op op_add (pv 4) (pe_call G_Draw hr1 (by rfl) m_Draw k_Draw b_Draw .nil pass0 (pa_cons (pv 1) (pa_cons (pe_callB (call_min2 rfl) (by rfl) m_min PyProof.Rows.boot_min (pa_cons (pe_op op_sub pe_int (pv 4)) (pa_cons (pe_ix ix_list (pe_lst (pa_cons pe_int (pa_cons pe_int (pa_cons pe_int pa_nil)))) (pe_call G_Draw hr1 (by rfl) m_Draw k_Draw b_Draw .nil pass0 (pa_cons (pv 1) (pa_cons pe_int pa_nil))) (fun _ _ => rfl)) pa_nil))) pa_nil)))))
    (pss_cons (ps_set (i := 6) scLaw.nd rfl (Or.inl rfl) (pe_call G_Stp hr2 (by rfl) m_Stp k_Stp b_Stp .nil pass0 (pa_cons (pv 1) (pa_cons pe_int pa_nil))))
    (pss_cons (ps_set (i := 7) scLaw.nd rfl (Or.inl rfl) (pe_op op_add (pv 4) (pe_call G_Draw hr1 (by rfl) m_Draw k_Draw b_Draw .nil pass0 (pa_cons (pv 1) (pa_cons (pe_callB (call_min2 rfl) (by rfl) m_min PyProof.Rows.boot_min (pa_cons (pe_op op_sub pe_int (pv 4)) (pa_cons pe_int pa_nil))) pa_nil)))))
    (pss_cons (ps_set (i := 8) scLaw.nd rfl (Or.inl rfl) (pe_lst (pa_cons (pe_tup (pa_cons (pv 2) (pa_cons (pv 3) (pa_cons (pv 4) (pa_cons (pv 5) pa_nil))))) (pa_cons (pe_tup (pa_cons (pv 2) (pa_cons (pv 3) (pa_cons (pv 4) (pa_cons (pv 7) pa_nil))))) (pa_cons (pe_tup (pa_cons (pv 2) (pa_cons (pv 6) (pa_cons (pv 4) (pa_cons (pv 7) pa_nil))))) pa_nil)))))
    (pss_cons (ps_set (i := 8) scLaw.nd rfl (Or.inl rfl) (pe_op op_cat (pv 8) (pe_lst (pa_cons (pe_tup (pa_cons (pv 6) (pa_cons (pv 3) (pa_cons (pe_callB (call_max2 rfl) (by rfl) m_max PyProof.Rows.boot_max (pa_cons pe_int (pa_cons (pe_op op_sub (pv 7) pe_int) pa_nil))) (pa_cons (pv 7) pa_nil))))) (pa_cons (pe_tup (pa_cons (pv 3) (pa_cons (pv 2) (pa_cons (pv 4) (pa_cons (pv 7) pa_nil))))) pa_nil)))))
    (pss_one (ps_ret (pe_callB call_all (by rfl) m_all PyProof.Rows.boot_all (pa_cons (pe_comp ["_law_one", "_law_two", "_law_least", "_law_most"] [none, none, none, none] (pi_list (pe_op op_cat (pv 8) (pe_slice sl_list (pv 8) po_none (po_some pe_int)))) (fun _ _ _ _ => (pgtK K (n := 4) rfl (pgs_cons (pg_name (i := 0) (nd_Law1) rfl (Or.inl rfl)) (pgs_cons (pg_name (i := 1) (nd_Law1) rfl (Or.inl rfl)) (pgs_cons (pg_name (i := 2) (nd_Law1) rfl (Or.inl rfl)) (pgs_cons (pg_name (i := 3) (nd_Law1) rfl (Or.inl rfl)) pgs_nil)))))) (fun _ _ _ _ => pf_nil) (fun _ _ _ _ => (pe_call G_Right hr10 (by rfl) m_Right k_Right b_Right .nil pass0 (pa_cons (pv 0) (pa_cons (pv 1) (pa_cons (pv 2) (pa_cons (pv 3) pa_nil))))))) pa_nil)))))))))), fun d l p q a b HX D hp hq ha hb => ?_⟩
    refine ⟨_, rfl, d, l, 10, rfl, D, by decide, by decide, fun lo H4 l0 l1 D4 o4 => ?_⟩
    refine ⟨_, rfl, _, rfl, _, rfl, _, _, rfl, rfl, by show 3 ≤ sizeLine; decide, fun l5 hl5 => ?_⟩
    have n5 := deal_new2 D4 hl5
    have s5 := same_new hl5 (.lst [.int 3, .int 5, .int 10])
    have h5 : upd H4 l5 (.lst [.int 3, .int 5, .int 10]) l5 = some (.lst [.int 3, .int 5, .int 10]) := upd_same
    generalize upd H4 l5 (.lst [.int 3, .int 5, .int 10]) = H5 at s5 h5 ⊢
    have D5 := D4.same s5
    refine ⟨_, rfl, d, l, 3, rfl, D5, by decide, by decide, fun x H6 x0 x1 D6 o6 => ?_⟩
    obtain ⟨wd, hat, w1, w2⟩ : ∃ wd, atI [V.int 3, V.int 5, V.int 10] x = some (.int wd) ∧ 1 ≤ wd ∧ wd ≤ 10 := by
      have : x = 0 ∨ x = 1 ∨ x = 2 := by omega
      rcases this with rfl | rfl | rfl
      · exact ⟨3, rfl, by decide, by decide⟩
      · exact ⟨5, rfl, by decide, by decide⟩
      · exact ⟨10, rfl, by decide, by decide⟩
    refine ⟨l5, _, _, .int wd, rfl, rfl, SqL.of (o6 _ _ h5 n5.1 n5.2), hat, _, _, rfl, ?_⟩
    refine ⟨d, l, (if wd < 10 - lo then wd else 10 - lo), rfl, D6, by split <;> (first | exact Int.lt_of_lt_of_le (b := 1) (by decide +kernel) (by with_reducible assumption) | omega), by split <;> (first | exact Int.lt_of_le_of_lt (by with_reducible assumption) (by decide +kernel) | omega), fun y H7 y0 y1 D7 o7 => ⟨_, _, rfl, rfl, ?_⟩⟩
    have yb : lo + y ≤ 9 := by split at y1 <;> omega
    refine ⟨_, rfl, d, l, rfl, D7, fun r c H8 hr8 hc D8 o8 => ?_⟩
    refine ⟨_, rfl, _, rfl, _, rfl, _, _, rfl, rfl, _, _, rfl, ?_⟩
    refine ⟨d, l, (if 4 < 10 - lo then 4 else 10 - lo), rfl, D8, by split <;> omega, by split <;> omega, fun z H9 z0 z1 D9 o9 => ⟨_, _, rfl, rfl, ?_⟩⟩
    have zb : lo + z ≤ 9 := by split at z1 <;> omega
    have oT := o4.trans ((Out.of s5).trans (o6.trans (o7.trans (o8.trans o9))))
    replace hp := TS.out D oT _ _ hp
    replace hq := TS.out D oT _ _ hq
    replace hr8 := TS.out D8 o9 _ _ hr8
    refine ⟨_, rfl, _, rfl, _, rfl, _, rfl, by show 4 ≤ sizeLine; decide, fun ta hta => ?_⟩
    have e1 : AskR (upd H9 ta (.tup [.ref p, .ref q, .int lo, .int (lo + y)])) (.ref ta) := ⟨ta, p, q, a, b, lo, lo + y, rfl, upd_same, same_new hta _ _ _ hp, same_new hta _ _ _ hq, ha, hb, by (first | with_reducible assumption | omega), by omega, yb⟩
    have s1 := same_new hta (.tup [.ref p, .ref q, .int lo, .int (lo + y)])
    generalize upd H9 ta (.tup [.ref p, .ref q, .int lo, .int (lo + y)]) = J1 at s1 e1 ⊢
    replace hp := s1 _ _ hp
    replace hq := s1 _ _ hq
    replace hr8 := s1 _ _ hr8
    refine ⟨_, rfl, _, rfl, _, rfl, _, rfl, by show 4 ≤ sizeLine; decide, fun tb htb => ?_⟩
    have e2 : AskR (upd J1 tb (.tup [.ref p, .ref q, .int lo, .int (lo + z)])) (.ref tb) := ⟨tb, p, q, a, b, lo, lo + z, rfl, upd_same, same_new htb _ _ _ hp, same_new htb _ _ _ hq, ha, hb, by (first | with_reducible assumption | omega), by omega, zb⟩
    have s2 := same_new htb (.tup [.ref p, .ref q, .int lo, .int (lo + z)])
    generalize upd J1 tb (.tup [.ref p, .ref q, .int lo, .int (lo + z)]) = J2 at s2 e2 ⊢
    replace hp := s2 _ _ hp
    replace hq := s2 _ _ hq
    replace hr8 := s2 _ _ hr8
    replace e1 := e1.ts (.of s2)
    refine ⟨_, rfl, _, rfl, _, rfl, _, rfl, by show 4 ≤ sizeLine; decide, fun tc htc => ?_⟩
    have e3 : AskR (upd J2 tc (.tup [.ref p, .ref r, .int lo, .int (lo + z)])) (.ref tc) := ⟨tc, p, r, a, c, lo, lo + z, rfl, upd_same, same_new htc _ _ _ hp, same_new htc _ _ _ hr8, ha, hc, by (first | with_reducible assumption | omega), by omega, zb⟩
    have s3 := same_new htc (.tup [.ref p, .ref r, .int lo, .int (lo + z)])
    generalize upd J2 tc (.tup [.ref p, .ref r, .int lo, .int (lo + z)]) = J3 at s3 e3 ⊢
    replace hp := s3 _ _ hp
    replace hq := s3 _ _ hq
    replace hr8 := s3 _ _ hr8
    replace e1 := e1.ts (.of s3)
    replace e2 := e2.ts (.of s3)
    refine ⟨by show 3 ≤ sizeLine; decide, fun lf hlf => ?_⟩
    have s4 := same_new hlf (.lst [.ref ta, .ref tb, .ref tc])
    have h4 : upd J3 lf (.lst [.ref ta, .ref tb, .ref tc]) lf = some (.lst [.ref ta, .ref tb, .ref tc]) := upd_same
    generalize upd J3 lf (.lst [.ref ta, .ref tb, .ref tc]) = J4 at s4 h4 ⊢
    replace hp := s4 _ _ hp
    replace hq := s4 _ _ hq
    replace hr8 := s4 _ _ hr8
    refine ⟨_, rfl, _, rfl, _, rfl, _, rfl, _, _, rfl, rfl, _, _, rfl, _, rfl, by show 4 ≤ sizeLine; decide, fun td htd => ?_⟩
    have e4 : AskR (upd J4 td (.tup [.ref r, .ref q, .int (if lo + z - 3 > 0 then lo + z - 3 else 0), .int (lo + z)])) (.ref td) := ⟨td, r, q, c, b, _, lo + z, rfl, upd_same, same_new htd _ _ _ hr8, same_new htd _ _ _ hq, hc, hb, by split <;> (first | exact Int.le_of_lt (by with_reducible assumption) | omega), by split <;> omega, zb⟩
    have s5' := same_new htd (.tup [.ref r, .ref q, .int (if lo + z - 3 > 0 then lo + z - 3 else 0), .int (lo + z)])
    generalize upd J4 td (.tup [.ref r, .ref q, .int (if lo + z - 3 > 0 then lo + z - 3 else 0), .int (lo + z)]) = J5 at s5' e4 ⊢
    replace hp := s5' _ _ hp
    replace hq := s5' _ _ hq
    replace h4 := s5' _ _ h4
    refine ⟨_, rfl, _, rfl, _, rfl, _, rfl, by show 4 ≤ sizeLine; decide, fun te hte => ?_⟩
    have e5 : AskR (upd J5 te (.tup [.ref q, .ref p, .int lo, .int (lo + z)])) (.ref te) := ⟨te, q, p, b, a, lo, lo + z, rfl, upd_same, same_new hte _ _ _ hq, same_new hte _ _ _ hp, hb, ha, by (first | with_reducible assumption | omega), by omega, zb⟩
    have s6 := same_new hte (.tup [.ref q, .ref p, .int lo, .int (lo + z)])
    generalize upd J5 te (.tup [.ref q, .ref p, .int lo, .int (lo + z)]) = J6 at s6 e5 ⊢
    replace h4 := s6 _ _ h4
    replace e4 := e4.ts (.of s6)
    replace e3 := e3.ts (.of (s4.trans (s5'.trans s6)))
    replace e2 := e2.ts (.of (s4.trans (s5'.trans s6)))
    replace e1 := e1.ts (.of (s4.trans (s5'.trans s6)))
    refine ⟨by show 2 ≤ sizeLine; decide, fun lg hlg => ?_⟩
    have s7 := same_new hlg (.lst [.ref td, .ref te])
    have h7 : upd J6 lg (.lst [.ref td, .ref te]) lg = some (.lst [.ref td, .ref te]) := upd_same
    generalize upd J6 lg (.lst [.ref td, .ref te]) = J7 at s7 h7 ⊢
    refine ⟨lf, lg, _, _, rfl, rfl, s7 _ _ h4, h7, by show 5 ≤ sizeLine; decide, fun lh hlh => ?_⟩
    have s8 := same_new hlh (.lst [.ref ta, .ref tb, .ref tc, .ref td, .ref te])
    have h8 : upd J7 lh (.lst [.ref ta, .ref tb, .ref tc, .ref td, .ref te]) lh = some (.lst [.ref ta, .ref tb, .ref tc, .ref td, .ref te]) := upd_same
    have s78 := s7.trans s8
    have all : ∀ v ∈ [V.ref ta, .ref tb, .ref tc, .ref td, .ref te], AskR (upd J7 lh (.lst [.ref ta, .ref tb, .ref tc, .ref td, .ref te])) v := fun v hv => by
      simp only [List.mem_cons, List.not_mem_nil, or_false] at hv
      rcases hv with rfl | rfl | rfl | rfl | rfl
      · exact e1.ts (.of s78)
      · exact e2.ts (.of s78)
      · exact e3.ts (.of s78)
      · exact e4.ts (.of s78)
      · exact e5.ts (.of s78)
    refine ⟨_, rfl, _, rfl, _, rfl, lh, _, rfl, SqL.of h8, fun li hli => ?_⟩
    have s9 := same_new hli (.lst [V.ref ta]) (H := upd J7 lh (.lst [.ref ta, .ref tb, .ref tc, .ref td, .ref te]))
    refine ⟨lh, li, _, [V.ref ta], rfl, rfl, s9 _ _ h8, upd_same, by show 6 ≤ sizeLine; decide, fun lj hlj => ?_⟩
    have s10 := same_new hlj (.lst [.ref ta, .ref tb, .ref tc, .ref td, .ref te, .ref ta]) (H := upd (upd J7 lh (.lst [.ref ta, .ref tb, .ref tc, .ref td, .ref te])) li (.lst [V.ref ta]))
    have h10 : upd (upd (upd J7 lh (.lst [.ref ta, .ref tb, .ref tc, .ref td, .ref te])) li (.lst [V.ref ta])) lj (.lst [.ref ta, .ref tb, .ref tc, .ref td, .ref te, .ref ta]) lj = some (.lst [.ref ta, .ref tb, .ref tc, .ref td, .ref te, .ref ta]) := upd_same
    refine ⟨lj, rfl, ⟨_, SqL.of h10⟩, comp_list (K := K) (a := lj) (xs := [.ref ta, .ref tb, .ref tc, .ref td, .ref te, .ref ta]) (fun i ys σ H11 => Same (upd (upd (upd J7 lh (.lst [.ref ta, .ref tb, .ref tc, .ref td, .ref te])) li (.lst [V.ref ta])) lj (.lst [.ref ta, .ref tb, .ref tc, .ref td, .ref te, .ref ta])) H11 ∧ (∃ v1 v2 v3 v4, σ = [v1, v2, v3, v4]) ∧ ys = (List.replicate i true).map V.bl)
      (by show 6 < sizeLine; decide) ⟨Same.refl _, ⟨_, _, _, _, rfl⟩, rfl⟩ (fun i ys σ H11 ⟨_, _, e⟩ => by rw [e, List.length_map, List.length_replicate]; exact Nat.le_refl _) (fun i ys σ H11 _ ⟨e, _⟩ => SqL.of (e _ _ h10)) ?_ ?_⟩
    · rintro i v ys σ H11 hv ⟨s11, ⟨v1, v2, v3, v4, rfl⟩, rfl⟩
      have mv : v ∈ [V.ref ta, .ref tb, .ref tc, .ref td, .ref te] := by
        have := List.mem_of_getElem? hv
        simp only [List.mem_cons, List.not_mem_nil, or_false] at this ⊢
        rcases this with h | h | h | h | h | h
        · exact .inl h
        · exact .inr (.inl h)
        · exact .inr (.inr (.inl h))
        · exact .inr (.inr (.inr (.inl h)))
        · exact .inr (.inr (.inr (.inr h)))
        · exact .inl h
      obtain ⟨t, p1, q1, a1, b1, lo1, hi1, rfl, ht, hp1, hq1, ha1, hb1, en1⟩ := (all v mv).ts (.of (s9.trans (s10.trans s11)))
      refine ⟨t, _, rfl, SqT.of ht, rfl, _, _, rfl, _, _, rfl, _, _, rfl, _, _, rfl, rfl, ?_⟩
      refine ⟨_, rfl, _, rfl, _, rfl, _, rfl, p1, q1, a1, b1, lo1, hi1, rfl, hp1, hq1, ha1, hb1, en1, fun H12 s12 => ⟨s11.trans s12, ⟨_, _, _, _, rfl⟩, ?_⟩⟩
      rw [List.replicate_succ', List.map_append]
      rfl
    · rintro ys σ H11 ⟨s11, _, rfl⟩ lk hlk
      exact ⟨lk, List.replicate 6 true, rfl, SqL.of upd_same, k _⟩
  obtain ⟨R, hR, fin⟩ := key
  refine ⟨_, (pss_cons (ps_set (i := 1) scLaw.nd rfl (Or.inl rfl) (pe_call G_Deal hr1 (by rfl) m_Deal k_Deal b_Deal .nil pass0 (pa_cons (pv 0) (pa_cons pe_int pa_nil))))
    (pss_cons (ps_set (i := 2) scLaw.nd rfl (Or.inl rfl) (pe_call G_Stp hr2 (by rfl) m_Stp k_Stp b_Stp .nil pass0 (pa_cons (pv 1) (pa_cons pe_int pa_nil))))
    (pss_cons (ps_set (i := 3) scLaw.nd rfl (Or.inl rfl) (pe_call G_Stp hr2 (by rfl) m_Stp k_Stp b_Stp .nil pass0 (pa_cons (pv 1) (pa_cons pe_int pa_nil))))
    (pss_cons (ps_if (PW.pt (pw_and (pt_cmpR op_gt (pe_op op_mul (pe_ix ix_tup (pv 2) pe_int (fun _ _ => rfl)) (pe_ix ix_tup (pv 3) pe_int (fun _ _ => rfl))) (pe_op op_mul (pe_ix ix_tup (pv 3) pe_int (fun _ _ => rfl)) (pe_ix ix_tup (pv 2) pe_int (fun _ _ => rfl))) (nomark _)) (pw_and1 (pt_cmpR op_gt (pe_call G_Draw hr1 (by rfl) m_Draw k_Draw b_Draw .nil pass0 (pa_cons (pv 1) (pa_cons pe_int pa_nil))) pe_int (nomark _))))) (pss_one (ps_par (i := 2) (j := 3) rfl scLaw.nd rfl rfl (by decide) rfl rfl (pa_cons (pv 3) (pa_cons (pv 2) pa_nil)) rfl)) pss_nil)
    hR)))), ?_⟩
  refine ⟨_, rfl, s0, ns, 0, rfl, hs, hl, by decide, by decide, fun d l H1 hd hl' D1 s1 => ?_⟩
  refine ⟨_, rfl, d, l, rfl, D1, fun p a H2 hp ha D2 o2 => ?_⟩
  refine ⟨_, rfl, d, l, rfl, D2, fun q b H3 hq hb D3 o3 => ?_⟩
  replace hp := TS.out D2 o3 _ _ hp
  have na := stp_nat a ha
  have nb := stp_nat b hb
  refine ⟨_, rfl, p, _, _, _, rfl, rfl, SqT.of hp, ix0 _ _, _, rfl, q, _, _, _, rfl, rfl, SqT.of hq, ix1 _ _, _, _, rfl, rfl, .inl (in64 (by omega)), ?_⟩
  refine ⟨_, rfl, q, _, _, _, rfl, rfl, SqT.of hq, ix0 _ _, _, rfl, p, _, _, _, rfl, rfl, SqT.of hp, ix1 _ _, _, _, rfl, rfl, .inl (in64 (by omega)), _, _, rfl, rfl, _, rfl, ?_⟩
  by_cases c0 : (b.1 : Int) * a.2 < a.1 * b.2
  · refine iteP (decide_eq_true c0) ?_
    refine ⟨_, rfl, d, l, 4, rfl, D3, by decide, by decide, fun x0 H3' x00 x01 D o3' => ⟨_, _, rfl, rfl, _, rfl, ?_⟩⟩
    replace hp := TS.out D3 o3' _ _ hp
    replace hq := TS.out D3 o3' _ _ hq
    by_cases c1 : 0 < x0
    · refine iteP (decide_eq_true c1) ?_
      exact ⟨_, rfl, _, rfl, _, _, rfl, fin d l q p b a _ D hq hp hb ha⟩
    · exact iteN (by simpa using c1) (fin d l p q a b _ D hp hq ha hb)
  · refine iteN (by simpa using c0) ?_
    exact iteN (by simp) (fin d l p q a b _ D3 hp hq ha hb)
end
end Mine
namespace Mine
open PySem L2
theorem all_mk {l : PySem.W.OpenLaw} {w : World} {K : PySem.W.Frag} {h : Heap} {mg : Str → Option Value} {fa f1 f2 f3 f4 f5 f6 f7 f8 f9 f10 f11 f12 f13 f14 f15 f16 f17 f18 f19 f20 f21 f22 f23 f24 f25 f26 f27 f28 : Addr} (X : K.In h) (G : h.Ns mainGlobals mg) (hfa : mg "law" = some (.ref fa))
    {od1 an1 od2 an2 od3 an3 od4 an4 od5 an5 od6 an6 od7 an7 od8 an8 od9 an9 od10 an10 od11 an11 od12 an12 od13 an13 od14 an14 od15 an15 od16 an16 od17 an17 od18 an18 od19 an19 od20 an20 od21 an21 od22 an22 od23 an23 od24 an24 od25 an25 od26 an26 od27 an27 od28 an28 : Option Addr} {sl1 sl2 sl3 sl4 sl5 sl6 sl7 sl8 sl9 sl10 sl11 sl12 sl13 sl14 sl15 sl16 sl17 sl18 sl19 sl20 sl21 sl22 sl23 sl24 sl25 sl26 sl27 sl28 : Array (Option Value)} {oc1 kV1 dc1 pm1 cd1 ct1 oc2 kV2 dc2 pm2 cd2 ct2 oc3 kV3 dc3 pm3 cd3 ct3 oc4 kV4 dc4 pm4 cd4 ct4 oc5 kV5 dc5 pm5 cd5 ct5 oc6 kV6 dc6 pm6 cd6 ct6 oc7 kV7 dc7 pm7 cd7 ct7 oc8 kV8 dc8 pm8 cd8 ct8 oc9 kV9 dc9 pm9 cd9 ct9 oc10 kV10 dc10 pm10 cd10 ct10 oc11 kV11 dc11 pm11 cd11 ct11 oc12 kV12 dc12 pm12 cd12 ct12 oc13 kV13 dc13 pm13 cd13 ct13 oc14 kV14 dc14 pm14 cd14 ct14 oc15 kV15 dc15 pm15 cd15 ct15 oc16 kV16 dc16 pm16 cd16 ct16 oc17 kV17 dc17 pm17 cd17 ct17 oc18 kV18 dc18 pm18 cd18 ct18 oc19 kV19 dc19 pm19 cd19 ct19 oc20 kV20 dc20 pm20 cd20 ct20 oc21 kV21 dc21 pm21 cd21 ct21 oc22 kV22 dc22 pm22 cd22 ct22 oc23 kV23 dc23 pm23 cd23 ct23 oc24 kV24 dc24 pm24 cd24 ct24 oc25 kV25 dc25 pm25 cd25 ct25 oc26 kV26 dc26 pm26 cd26 ct26 oc27 kV27 dc27 pm27 cd27 ct27 oc28 kV28 dc28 pm28 cd28 ct28 : Value}
    {xcO : Addr} {odO : Option Addr} {itsO : Array Value} {nO : Nat} {slO : Array (Option Value)} {xcD xND xc1 xN1 : Addr} {xc2 xc3 xc4 xc5 xc6 xc7 : Addr} {oc_2 oc_3 oc_4 oc_5 oc_6 oc_7 : Value} {oo_2 oo_3 oo_4 oo_5 oo_6 oo_7 : Option Addr} {cd_2 cd_3 cd_4 cd_5 cd_6 cd_7 : ClassData} {ol_2 ol_3 ol_4 ol_5 ol_6 ol_7 : Array (Option Value)} {nmD qnD nm1 qn1 : Str} {bsD subD bs1 sub1 : List Value} {snD sn1 : List Str} {abD ab1 : Bool} {colD col1 : Option Bool} {ddD dd1 : Option Addr} {kaD kbD kcD kdD keD ka1 kb1 kc1 kd1 ke1 : Option Value} {oeD oe1 : Option Addr} {ooD oo1 : Value} {esD es1 : Array DictEntry} {enD en1 : Nat} {xlD xl1 : Array (Option Value)} 
    (a1 : PySem.W.nsIn K mainGlobals "common_divisor" = some (some (.ref f1))) (l1 : K.lookup f1 = some ⟨oc1, od1, .func (PySem.W.fnOf "common_divisor" "common_divisor" (defArgs sGcd) (defBody sGcd) (defScope sGcd) .none kV1 dc1 pm1 an1 cd1 ct1), sl1⟩) (c1 : PySem.W.codeIn K cd1 "common_divisor" = true) (k1 : PySem.W.keepIn K (.ref f1) = true)
    (a2 : PySem.W.nsIn K mainGlobals "lowest" = some (some (.ref f2))) (l2 : K.lookup f2 = some ⟨oc2, od2, .func (PySem.W.fnOf "lowest" "lowest" (defArgs sLow) (defBody sLow) (defScope sLow) .none kV2 dc2 pm2 an2 cd2 ct2), sl2⟩) (c2 : PySem.W.codeIn K cd2 "lowest" = true) (k2 : PySem.W.keepIn K (.ref f2) = true)
    (a3 : PySem.W.nsIn K mainGlobals "added" = some (some (.ref f3))) (l3 : K.lookup f3 = some ⟨oc3, od3, .func (PySem.W.fnOf "added" "added" (defArgs sAdd) (defBody sAdd) (defScope sAdd) .none kV3 dc3 pm3 an3 cd3 ct3), sl3⟩) (c3 : PySem.W.codeIn K cd3 "added" = true) (k3 : PySem.W.keepIn K (.ref f3) = true)
    (a4 : PySem.W.nsIn K mainGlobals "times" = some (some (.ref f4))) (l4 : K.lookup f4 = some ⟨oc4, od4, .func (PySem.W.fnOf "times" "times" (defArgs sTimes) (defBody sTimes) (defScope sTimes) .none kV4 dc4 pm4 an4 cd4 ct4), sl4⟩) (c4 : PySem.W.codeIn K cd4 "times" = true) (k4 : PySem.W.keepIn K (.ref f4) = true)
    (a5 : PySem.W.nsIn K mainGlobals "minus" = some (some (.ref f5))) (l5 : K.lookup f5 = some ⟨oc5, od5, .func (PySem.W.fnOf "minus" "minus" (defArgs sMinus) (defBody sMinus) (defScope sMinus) .none kV5 dc5 pm5 an5 cd5 ct5), sl5⟩) (c5 : PySem.W.codeIn K cd5 "minus" = true) (k5 : PySem.W.keepIn K (.ref f5) = true)
    (a6 : PySem.W.nsIn K mainGlobals "divided" = some (some (.ref f6))) (l6 : K.lookup f6 = some ⟨oc6, od6, .func (PySem.W.fnOf "divided" "divided" (defArgs sDivd) (defBody sDivd) (defScope sDivd) .none kV6 dc6 pm6 an6 cd6 ct6), sl6⟩) (c6 : PySem.W.codeIn K cd6 "divided" = true) (k6 : PySem.W.keepIn K (.ref f6) = true)
    (a7 : PySem.W.nsIn K mainGlobals "power" = some (some (.ref f7))) (l7 : K.lookup f7 = some ⟨oc7, od7, .func (PySem.W.fnOf "power" "power" (defArgs sPow) (defBody sPow) (defScope sPow) .none kV7 dc7 pm7 an7 cd7 ct7), sl7⟩) (c7 : PySem.W.codeIn K cd7 "power" = true) (k7 : PySem.W.keepIn K (.ref f7) = true)
    (a8 : PySem.W.nsIn K mainGlobals "less" = some (some (.ref f8))) (l8 : K.lookup f8 = some ⟨oc8, od8, .func (PySem.W.fnOf "less" "less" (defArgs sLess) (defBody sLess) (defScope sLess) .none kV8 dc8 pm8 an8 cd8 ct8), sl8⟩) (c8 : PySem.W.codeIn K cd8 "less" = true) (k8 : PySem.W.keepIn K (.ref f8) = true)
    (a9 : PySem.W.nsIn K mainGlobals "merged" = some (some (.ref f9))) (l9 : K.lookup f9 = some ⟨oc9, od9, .func (PySem.W.fnOf "merged" "merged" (defArgs sMerg) (defBody sMerg) (defScope sMerg) .none kV9 dc9 pm9 an9 cd9 ct9), sl9⟩) (c9 : PySem.W.codeIn K cd9 "merged" = true) (k9 : PySem.W.keepIn K (.ref f9) = true)
    (a10 : PySem.W.nsIn K mainGlobals "share_of" = some (some (.ref f10))) (l10 : K.lookup f10 = some ⟨oc10, od10, .func (PySem.W.fnOf "share_of" "share_of" (defArgs sShare) (defBody sShare) (defScope sShare) .none kV10 dc10 pm10 an10 cd10 ct10), sl10⟩) (c10 : PySem.W.codeIn K cd10 "share_of" = true) (k10 : PySem.W.keepIn K (.ref f10) = true)
    (a11 : PySem.W.nsIn K mainGlobals "far_tail" = some (some (.ref f11))) (l11 : K.lookup f11 = some ⟨oc11, od11, .func (PySem.W.fnOf "far_tail" "far_tail" (defArgs sFar) (defBody sFar) (defScope sFar) .none kV11 dc11 pm11 an11 cd11 ct11), sl11⟩) (c11 : PySem.W.codeIn K cd11 "far_tail" = true) (k11 : PySem.W.keepIn K (.ref f11) = true)
    (a12 : PySem.W.nsIn K mainGlobals "tail_of" = some (some (.ref f12))) (l12 : K.lookup f12 = some ⟨oc12, od12, .func (PySem.W.fnOf "tail_of" "tail_of" (defArgs sTail) (defBody sTail) (defScope sTail) .none kV12 dc12 pm12 an12 cd12 ct12), sl12⟩) (c12 : PySem.W.codeIn K cd12 "tail_of" = true) (k12 : PySem.W.keepIn K (.ref f12) = true)
    (a13 : PySem.W.nsIn K mainGlobals "ladder_table" = some (some (.ref f13))) (l13 : K.lookup f13 = some ⟨oc13, od13, .func (PySem.W.fnOf "ladder_table" "ladder_table" (defArgs sLad) (defBody sLad) (defScope sLad) .none kV13 dc13 pm13 an13 cd13 ct13), sl13⟩) (c13 : PySem.W.codeIn K cd13 "ladder_table" = true) (k13 : PySem.W.keepIn K (.ref f13) = true)
    (a14 : PySem.W.nsIn K mainGlobals "share_moved" = some (some (.ref f14))) (l14 : K.lookup f14 = some ⟨oc14, od14, .func (PySem.W.fnOf "share_moved" "share_moved" (defArgs sMov) (defBody sMov) (defScope sMov) .none kV14 dc14 pm14 an14 cd14 ct14), sl14⟩) (c14 : PySem.W.codeIn K cd14 "share_moved" = true) (k14 : PySem.W.keepIn K (.ref f14) = true)
    (a15 : PySem.W.nsIn K mainGlobals "row_between" = some (some (.ref f15))) (l15 : K.lookup f15 = some ⟨oc15, od15, .func (PySem.W.fnOf "row_between" "row_between" (defArgs sRow) (defBody sRow) (defScope sRow) .none kV15 dc15 pm15 an15 cd15 ct15), sl15⟩) (c15 : PySem.W.codeIn K cd15 "row_between" = true) (k15 : PySem.W.keepIn K (.ref f15) = true)
    (a16 : PySem.W.nsIn K mainGlobals "rows_between" = some (some (.ref f16))) (l16 : K.lookup f16 = some ⟨oc16, od16, .func (PySem.W.fnOf "rows_between" "rows_between" (defArgs sRows) (defBody sRows) (defScope sRows) .none kV16 dc16 pm16 an16 cd16 ct16), sl16⟩) (c16 : PySem.W.codeIn K cd16 "rows_between" = true) (k16 : PySem.W.keepIn K (.ref f16) = true)
    (a17 : PySem.W.nsIn K mainGlobals "_law_deal" = some (some (.ref f17))) (l17 : K.lookup f17 = some ⟨oc17, od17, .func (PySem.W.fnOf "_law_deal" "_law_deal" (defArgs sDeal) (defBody sDeal) (defScope sDeal) .none kV17 dc17 pm17 an17 cd17 ct17), sl17⟩) (c17 : PySem.W.codeIn K cd17 "_law_deal" = true) (k17 : PySem.W.keepIn K (.ref f17) = true)
    (a18 : PySem.W.nsIn K mainGlobals "_law_draw" = some (some (.ref f18))) (l18 : K.lookup f18 = some ⟨oc18, od18, .func (PySem.W.fnOf "_law_draw" "_law_draw" (defArgs sDraw) (defBody sDraw) (defScope sDraw) .none kV18 dc18 pm18 an18 cd18 ct18), sl18⟩) (c18 : PySem.W.codeIn K cd18 "_law_draw" = true) (k18 : PySem.W.keepIn K (.ref f18) = true)
    (a19 : PySem.W.nsIn K mainGlobals "_law_lowest" = some (some (.ref f19))) (l19 : K.lookup f19 = some ⟨oc19, od19, .func (PySem.W.fnOf "_law_lowest" "_law_lowest" (defArgs sLLow) (defBody sLLow) (defScope sLLow) .none kV19 dc19 pm19 an19 cd19 ct19), sl19⟩) (c19 : PySem.W.codeIn K cd19 "_law_lowest" = true) (k19 : PySem.W.keepIn K (.ref f19) = true)
    (a20 : PySem.W.nsIn K mainGlobals "_law_steepness" = some (some (.ref f20))) (l20 : K.lookup f20 = some ⟨oc20, od20, .func (PySem.W.fnOf "_law_steepness" "_law_steepness" (defArgs sStp) (defBody sStp) (defScope sStp) .none kV20 dc20 pm20 an20 cd20 ct20), sl20⟩) (c20 : PySem.W.codeIn K cd20 "_law_steepness" = true) (k20 : PySem.W.keepIn K (.ref f20) = true)
    (a21 : PySem.W.nsIn K mainGlobals "_law_power" = some (some (.ref f21))) (l21 : K.lookup f21 = some ⟨oc21, od21, .func (PySem.W.fnOf "_law_power" "_law_power" (defArgs sLPow) (defBody sLPow) (defScope sLPow) .none kV21 dc21 pm21 an21 cd21 ct21), sl21⟩) (c21 : PySem.W.codeIn K cd21 "_law_power" = true) (k21 : PySem.W.keepIn K (.ref f21) = true)
    (a22 : PySem.W.nsIn K mainGlobals "_law_ladder" = some (some (.ref f22))) (l22 : K.lookup f22 = some ⟨oc22, od22, .func (PySem.W.fnOf "_law_ladder" "_law_ladder" (defArgs sLLad) (defBody sLLad) (defScope sLLad) .none kV22 dc22 pm22 an22 cd22 ct22), sl22⟩) (c22 : PySem.W.codeIn K cd22 "_law_ladder" = true) (k22 : PySem.W.keepIn K (.ref f22) = true)
    (a23 : PySem.W.nsIn K mainGlobals "_law_is_table" = some (some (.ref f23))) (l23 : K.lookup f23 = some ⟨oc23, od23, .func (PySem.W.fnOf "_law_is_table" "_law_is_table" (defArgs sIsT) (defBody sIsT) (defScope sIsT) .none kV23 dc23 pm23 an23 cd23 ct23), sl23⟩) (c23 : PySem.W.codeIn K cd23 "_law_is_table" = true) (k23 : PySem.W.keepIn K (.ref f23) = true)
    (a24 : PySem.W.nsIn K mainGlobals "_law_refused" = some (some (.ref f24))) (l24 : K.lookup f24 = some ⟨oc24, od24, .func (PySem.W.fnOf "_law_refused" "_law_refused" (defArgs sRef) (defBody sRef) (defScope sRef) .none kV24 dc24 pm24 an24 cd24 ct24), sl24⟩) (c24 : PySem.W.codeIn K cd24 "_law_refused" = true) (k24 : PySem.W.keepIn K (.ref f24) = true)
    (a25 : PySem.W.nsIn K mainGlobals "_law_told" = some (some (.ref f25))) (l25 : K.lookup f25 = some ⟨oc25, od25, .func (PySem.W.fnOf "_law_told" "_law_told" (defArgs sTold) (defBody sTold) (defScope sTold) .none kV25 dc25 pm25 an25 cd25 ct25), sl25⟩) (c25 : PySem.W.codeIn K cd25 "_law_told" = true) (k25 : PySem.W.keepIn K (.ref f25) = true)
    (a26 : PySem.W.nsIn K mainGlobals "_law_comes" = some (some (.ref f26))) (l26 : K.lookup f26 = some ⟨oc26, od26, .func (PySem.W.fnOf "_law_comes" "_law_comes" (defArgs sComes) (defBody sComes) (defScope sComes) .none kV26 dc26 pm26 an26 cd26 ct26), sl26⟩) (c26 : PySem.W.codeIn K cd26 "_law_comes" = true) (k26 : PySem.W.keepIn K (.ref f26) = true)
    (a27 : PySem.W.nsIn K mainGlobals "_law_right" = some (some (.ref f27))) (l27 : K.lookup f27 = some ⟨oc27, od27, .func (PySem.W.fnOf "_law_right" "_law_right" (defArgs sRight) (defBody sRight) (defScope sRight) .none kV27 dc27 pm27 an27 cd27 ct27), sl27⟩) (c27 : PySem.W.codeIn K cd27 "_law_right" = true) (k27 : PySem.W.keepIn K (.ref f27) = true)
    (a28 : PySem.W.nsIn K mainGlobals "law" = some (some (.ref f28))) (l28 : K.lookup f28 = some ⟨oc28, od28, .func (PySem.W.fnOf "law" "law" (defArgs sLaw) (defBody sLaw) (defScope sLaw) .none kV28 dc28 pm28 an28 cd28 ct28), sl28⟩) (c28 : PySem.W.codeIn K cd28 "law" = true) (k28 : PySem.W.keepIn K (.ref f28) = true)
    (z_range : PySem.W.nsIn K mainGlobals "range" = some none)
    (z_sorted : PySem.W.nsIn K mainGlobals "sorted" = some none)
    (z_tuple : PySem.W.nsIn K mainGlobals "tuple" = some none)
    (z_abs : PySem.W.nsIn K mainGlobals "abs" = some none)
    (z_max : PySem.W.nsIn K mainGlobals "max" = some none)
    (z_list : PySem.W.nsIn K mainGlobals "list" = some none)
    (z_reversed : PySem.W.nsIn K mainGlobals "reversed" = some none)
    (z_len : PySem.W.nsIn K mainGlobals "len" = some none)
    (z_int : PySem.W.nsIn K mainGlobals "int" = some none)
    (z_isinstance : PySem.W.nsIn K mainGlobals "isinstance" = some none)
    (z_all : PySem.W.nsIn K mainGlobals "all" = some none)
    (z_bool : PySem.W.nsIn K mainGlobals "bool" = some none)
    (z_min : PySem.W.nsIn K mainGlobals "min" = some none)
    (z_ValueError : PySem.W.nsIn K mainGlobals "ValueError" = some none)
    (z_enumerate : PySem.W.nsIn K mainGlobals "enumerate" = some none)
    (qO : PySem.W.nsIn K mainGlobals "ONE" = some (some (.ref xcO)))
    (uO : K.lookup xcO = some ⟨.type "tuple", odO, .seq itsO nO, slO⟩)
    (vO : Vals [.int 1, .int 1] itsO.toList)
    (qD : PySem.W.nsIn K mainGlobals "ThrowError" = some (some (.ref xcD)))
    (q1 : PySem.W.nsIn K mainGlobals "NoRows" = some (some (.ref xc1)))
    (q2 : PySem.W.nsIn K mainGlobals "NoFit" = some (some (.ref xc2)))
    (q3 : PySem.W.nsIn K mainGlobals "NoPaper" = some (some (.ref xc3)))
    (q4 : PySem.W.nsIn K mainGlobals "NoProgram" = some (some (.ref xc4)))
    (q5 : PySem.W.nsIn K mainGlobals "NoRow" = some (some (.ref xc5)))
    (q6 : PySem.W.nsIn K mainGlobals "NoText" = some (some (.ref xc6)))
    (q7 : PySem.W.nsIn K mainGlobals "TooMany" = some (some (.ref xc7)))
    (uD : K.lookup xcD = some (excClassObj nmD qnD xcD xND bsD (veB) true snD subD abD colD ddD kaD kbD kcD kdD keD "ValueError.__new__"))
    (u1 : K.lookup xc1 = some (excClassObj nm1 qn1 xc1 xN1 bs1 (.ref xcD :: veB) true sn1 sub1 ab1 col1 dd1 ka1 kb1 kc1 kd1 ke1 "ValueError.__new__"))
    (u2 : K.lookup xc2 = some ⟨oc_2, oo_2, .cls cd_2, ol_2⟩)
    (ty2 : PySem.W.typeIn K (.ref xc2) = some (.type "type"))
    (u3 : K.lookup xc3 = some ⟨oc_3, oo_3, .cls cd_3, ol_3⟩)
    (ty3 : PySem.W.typeIn K (.ref xc3) = some (.type "type"))
    (u4 : K.lookup xc4 = some ⟨oc_4, oo_4, .cls cd_4, ol_4⟩)
    (ty4 : PySem.W.typeIn K (.ref xc4) = some (.type "type"))
    (u5 : K.lookup xc5 = some ⟨oc_5, oo_5, .cls cd_5, ol_5⟩)
    (ty5 : PySem.W.typeIn K (.ref xc5) = some (.type "type"))
    (u6 : K.lookup xc6 = some ⟨oc_6, oo_6, .cls cd_6, ol_6⟩)
    (ty6 : PySem.W.typeIn K (.ref xc6) = some (.type "type"))
    (u7 : K.lookup xc7 = some ⟨oc_7, oo_7, .cls cd_7, ol_7⟩)
    (ty7 : PySem.W.typeIn K (.ref xc7) = some (.type "type"))
    (tnD : K.lookup xND = some ⟨ooD, oeD, .dict esD enD, xlD⟩)
    (ttD : (esD.toList.all fun e => match e.key with | .str _ _ => true | _ => false) = true)
    (niD : PySem.W.nsIn K xND "__init__" = some none)
    (tn1 : K.lookup xN1 = some ⟨oo1, oe1, .dict es1 en1, xl1⟩)
    (tt1 : (es1.toList.all fun e => match e.key with | .str _ _ => true | _ => false) = true)
    (ni1 : PySem.W.nsIn K xN1 "__init__" = some none)
    (sa1 : PySem.W.findIn K (.ref xc1) "__setattr__" = some (some (.builtin "object.__setattr__")))
    (ga1 : PySem.W.findIn K (.ref xc1) "__getattribute__" = some (some (.builtin "BaseException.__getattribute__")))
    (gh1 : PySem.W.findIn K (.ref xc1) "__getattr__" = some none)
    (ca1 : PySem.W.findIn K (.ref xc1) "__class__" = some (some (.builtin "object.__class__")))
    (kp1 : PySem.W.keepIn K (.ref xc1) = true)
    (beD : PySem.W.subIn K (.ref xcD) (.type "BaseException") = some true)
    (hg : PySem.W.specialIn K (.builtin "object.__class__") "__get__" = some (some (.builtin "getset_descriptor.__get__")))
    (ht : PySem.W.takesIn K (.builtin "object.__class__") = some true)
    (nr : xc1 ∉ [xc2, xc3, xc4, xc5, xc6, xc7])
    (dnot : xcD ∉ [xc2, xc3, xc4, xc5, xc6, xc7]) :
    ∃ fd : FuncData, (∀ (s : Shared) (v : Value), BindsTo s fd ⟨[v], []⟩ [("_law_script", v)]) ∧ ∀ base : Heap, K.In base → base.Ns mainGlobals mg → FnOk l.prog w K mg base CX0 11 fa fd ["_law_script"] (spLaw K) := by
  have e := hfa.symm.trans (PySem.W.mg_of X G a28)
  cases e
  have F1 := fun_mk (st := sGcd) l1 c1 k1
  have b1 := F1.b2 (p1 := "one") (p2 := "other") fun _ _ _ _ _ _ _ _ => rfl
  have m1 := PySem.W.mg_of X G a1
  have F2 := fun_mk (st := sLow) l2 c2 k2
  have b2 := F2.b2 (p1 := "top") (p2 := "bottom") fun _ _ _ _ _ _ _ _ => rfl
  have m2 := PySem.W.mg_of X G a2
  have F3 := fun_mk (st := sAdd) l3 c3 k3
  have b3 := F3.b2 (p1 := "one") (p2 := "other") fun _ _ _ _ _ _ _ _ => rfl
  have m3 := PySem.W.mg_of X G a3
  have F4 := fun_mk (st := sTimes) l4 c4 k4
  have b4 := F4.b2 (p1 := "one") (p2 := "other") fun _ _ _ _ _ _ _ _ => rfl
  have m4 := PySem.W.mg_of X G a4
  have F5 := fun_mk (st := sMinus) l5 c5 k5
  have b5 := F5.b2 (p1 := "one") (p2 := "other") fun _ _ _ _ _ _ _ _ => rfl
  have m5 := PySem.W.mg_of X G a5
  have F6 := fun_mk (st := sDivd) l6 c6 k6
  have b6 := F6.b2 (p1 := "one") (p2 := "other") fun _ _ _ _ _ _ _ _ => rfl
  have m6 := PySem.W.mg_of X G a6
  have F7 := fun_mk (st := sPow) l7 c7 k7
  have b7 := F7.b2 (p1 := "one") (p2 := "k") fun _ _ _ _ _ _ _ _ => rfl
  have m7 := PySem.W.mg_of X G a7
  have F8 := fun_mk (st := sLess) l8 c8 k8
  have b8 := F8.b2 (p1 := "one") (p2 := "other") fun _ _ _ _ _ _ _ _ => rfl
  have m8 := PySem.W.mg_of X G a8
  have F9 := fun_mk (st := sMerg) l9 c9 k9
  have b9 := F9.b1 (p1 := "pairs") fun _ _ _ _ _ _ _ => rfl
  have m9 := PySem.W.mg_of X G a9
  have F10 := fun_mk (st := sShare) l10 c10 k10
  have b10 := F10.b2 (p1 := "steepness") (p2 := "k") fun _ _ _ _ _ _ _ _ => rfl
  have m10 := PySem.W.mg_of X G a10
  have F11 := fun_mk (st := sFar) l11 c11 k11
  have b11 := F11.b2 (p1 := "steepness") (p2 := "k") fun _ _ _ _ _ _ _ _ => rfl
  have m11 := PySem.W.mg_of X G a11
  have F12 := fun_mk (st := sTail) l12 c12 k12
  have b12 := F12.b2 (p1 := "steepness") (p2 := "k") fun _ _ _ _ _ _ _ _ => rfl
  have m12 := PySem.W.mg_of X G a12
  have F13 := fun_mk (st := sLad) l13 c13 k13
  have b13 := F13.b4 (p1 := "number") (p2 := "steepness") (p3 := "low") (p4 := "high") fun _ _ _ _ _ _ _ _ _ _ => rfl
  have m13 := PySem.W.mg_of X G a13
  have F14 := fun_mk (st := sMov) l14 c14 k14
  have b14 := F14.b3 (p1 := "a") (p2 := "b") (p3 := "at_end") fun _ _ _ _ _ _ _ _ _ => rfl
  have m14 := PySem.W.mg_of X G a14
  have F15 := fun_mk (st := sRow) l15 c15 k15
  have b15 := F15.b5 (p1 := "a") (p2 := "b") (p3 := "low") (p4 := "high") (p5 := "rung") fun _ _ _ _ _ _ _ _ _ _ _ => rfl
  have m15 := PySem.W.mg_of X G a15
  have F16 := fun_mk (st := sRows) l16 c16 k16
  have b16 := F16.b4 (p1 := "a") (p2 := "b") (p3 := "low") (p4 := "high") fun _ _ _ _ _ _ _ _ _ _ => rfl
  have m16 := PySem.W.mg_of X G a16
  have F17 := fun_mk (st := sDeal) l17 c17 k17
  have b17 := F17.b2 (p1 := "_law_script") (p2 := "_law_base") fun _ _ _ _ _ _ _ _ => rfl
  have m17 := PySem.W.mg_of X G a17
  have F18 := fun_mk (st := sDraw) l18 c18 k18
  have b18 := F18.b2 (p1 := "_law_deal_here") (p2 := "_law_many") fun _ _ _ _ _ _ _ _ => rfl
  have m18 := PySem.W.mg_of X G a18
  have F19 := fun_mk (st := sLLow) l19 c19 k19
  have b19 := F19.b2 (p1 := "_law_top") (p2 := "_law_bottom") fun _ _ _ _ _ _ _ _ => rfl
  have m19 := PySem.W.mg_of X G a19
  have F20 := fun_mk (st := sStp) l20 c20 k20
  have b20 := F20.b2 (p1 := "_law_deal_here") (p2 := "_law_most") fun _ _ _ _ _ _ _ _ => rfl
  have m20 := PySem.W.mg_of X G a20
  have F21 := fun_mk (st := sLPow) l21 c21 k21
  have b21 := F21.b2 (p1 := "_law_number") (p2 := "_law_many") fun _ _ _ _ _ _ _ _ => rfl
  have m21 := PySem.W.mg_of X G a21
  have F22 := fun_mk (st := sLLad) l22 c22 k22
  have b22 := F22.b4 (p1 := "_law_steepness_here") (p2 := "_law_low") (p3 := "_law_high") (p4 := "_law_n") fun _ _ _ _ _ _ _ _ _ _ => rfl
  have m22 := PySem.W.mg_of X G a22
  have F23 := fun_mk (st := sIsT) l23 c23 k23
  have b23 := F23.b3 (p1 := "_law_table") (p2 := "_law_low") (p3 := "_law_high") fun _ _ _ _ _ _ _ _ _ => rfl
  have m23 := PySem.W.mg_of X G a23
  have F24 := fun_mk (st := sRef) l24 c24 k24
  have b24 := F24.b1 (p1 := "_law_e") fun _ _ _ _ _ _ _ => rfl
  have m24 := PySem.W.mg_of X G a24
  have F25 := fun_mk (st := sTold) l25 c25 k25
  have b25 := F25.b4 (p1 := "_law_a") (p2 := "_law_b") (p3 := "_law_low") (p4 := "_law_high") fun _ _ _ _ _ _ _ _ _ _ => rfl
  have m25 := PySem.W.mg_of X G a25
  have F26 := fun_mk (st := sComes) l26 c26 k26
  have b26 := F26.b5 (p1 := "_law_first") (p2 := "_law_rows") (p3 := "_law_second") (p4 := "_law_low") (p5 := "_law_high") fun _ _ _ _ _ _ _ _ _ _ _ => rfl
  have m26 := PySem.W.mg_of X G a26
  have F27 := fun_mk (st := sRight) l27 c27 k27
  have b27 := F27.b4 (p1 := "_law_a") (p2 := "_law_b") (p3 := "_law_low") (p4 := "_law_high") fun _ _ _ _ _ _ _ _ _ _ => rfl
  have m27 := PySem.W.mg_of X G a27
  have F28 := fun_mk (st := sLaw) l28 c28 k28
  have y_range := PySem.W.mg_none_of X G z_range
  have y_sorted := PySem.W.mg_none_of X G z_sorted
  have y_tuple := PySem.W.mg_none_of X G z_tuple
  have y_abs := PySem.W.mg_none_of X G z_abs
  have y_max := PySem.W.mg_none_of X G z_max
  have y_list := PySem.W.mg_none_of X G z_list
  have y_reversed := PySem.W.mg_none_of X G z_reversed
  have y_len := PySem.W.mg_none_of X G z_len
  have y_int := PySem.W.mg_none_of X G z_int
  have y_isinstance := PySem.W.mg_none_of X G z_isinstance
  have y_all := PySem.W.mg_none_of X G z_all
  have y_bool := PySem.W.mg_none_of X G z_bool
  have y_min := PySem.W.mg_none_of X G z_min
  have y_ValueError := PySem.W.mg_none_of X G z_ValueError
  have y_enumerate := PySem.W.mg_none_of X G z_enumerate
  refine ⟨PySem.W.fnOf "law" "law" (defArgs sLaw) (defBody sLaw) (defScope sLaw) .none kV28 dc28 pm28 an28 cd28 ct28, fun s v => .of_eq rfl, fun base _ _ => ?_⟩
  have mO := PySem.W.mg_of X G qO
  have zO : itsO.size ≤ sizeLine := by
    have e := vO.length
    have e2 : itsO.size = 2 := by rw [← Array.length_toList]; simpa using e.symm
    rw [e2]
    decide
  have hO : ∀ H, SqT K H xcO [.int 1, .int 1] := fun H => .inr ⟨_, itsO, nO, uO, rfl, rfl, zO, vO⟩
  have W1 := over_of u1 sa1 ga1 gh1
  have Z1 : XIs K xc1 := ⟨ca1, hg, ht⟩
  have TD : PySem.W.typeIn K (.ref xcD) = some (.type "type") := by show (K.lookup xcD).map _ = _; rw [uD]; rfl
  have CD : (PySem.W.clsIn K xcD).isSome = true := by unfold PySem.W.clsIn; rw [uD]; rfl
  have cl2 : (PySem.W.clsIn K xc2).isSome = true := by unfold PySem.W.clsIn; rw [u2]; rfl
  have cl3 : (PySem.W.clsIn K xc3).isSome = true := by unfold PySem.W.clsIn; rw [u3]; rfl
  have cl4 : (PySem.W.clsIn K xc4).isSome = true := by unfold PySem.W.clsIn; rw [u4]; rfl
  have cl5 : (PySem.W.clsIn K xc5).isSome = true := by unfold PySem.W.clsIn; rw [u5]; rfl
  have cl6 : (PySem.W.clsIn K xc6).isSome = true := by unfold PySem.W.clsIn; rw [u6]; rfl
  have cl7 : (PySem.W.clsIn K xc7).isSome = true := by unfold PySem.W.clsIn; rw [u7]; rfl
  have FM : XFam1 K xc1 [xc2, xc3, xc4, xc5, xc6, xc7] xcD := ⟨W1, Z1, (by
    intro C h
    simp only [List.mem_cons, List.not_mem_nil, or_false] at h
    rcases h with rfl | rfl | rfl | rfl | rfl | rfl
    · exact ty2
    · exact ty3
    · exact ty4
    · exact ty5
    · exact ty6
    · exact ty7
    ), (by
    intro C h
    simp only [List.mem_cons, List.not_mem_nil, or_false] at h
    rcases h with rfl | rfl | rfl | rfl | rfl | rfl
    · exact cl2
    · exact cl3
    · exact cl4
    · exact cl5
    · exact cl6
    · exact cl7
    ), nr, dnot, CD, TD⟩
  have UP : XUp K xcD := ⟨TD, CD, beD⟩
  have MK1 := mk_of u1 kp1 (text_of tn1 tt1) ni1 uD (text_of tnD ttD) niD
  have mD := PySem.W.mg_of X G qD
  have mc1 := PySem.W.mg_of X G q1
  have mc2 := PySem.W.mg_of X G q2
  have mc3 := PySem.W.mg_of X G q3
  have mc4 := PySem.W.mg_of X G q4
  have mc5 := PySem.W.mg_of X G q5
  have mc6 := PySem.W.mg_of X G q6
  have mc7 := PySem.W.mg_of X G q7
  have G1 := ok_Gcd (P := l.prog) (w := w) (mg := mg) (base := base) F1   
  have G2 := ok_Low (P := l.prog) (w := w) (mg := mg) (base := base) F2  G1 b1 k1 m1 
  have G3 := ok_Add (P := l.prog) (w := w) (mg := mg) (base := base) F3  G2 b2 k2 m2 
  have G4 := ok_Times (P := l.prog) (w := w) (mg := mg) (base := base) F4  G2 b2 k2 m2 
  have G5 := ok_Minus (P := l.prog) (w := w) (mg := mg) (base := base) F5  G2 b2 k2 m2 
  have G6 := ok_Divd (P := l.prog) (w := w) (mg := mg) (base := base) F6  G2 b2 k2 m2 
  have G7 := ok_Pow (P := l.prog) (w := w) (mg := mg) (base := base) F7   y_range
  have G8 := ok_Less (P := l.prog) (w := w) (mg := mg) (base := base) F8   
  have G9 := ok_Merg (P := l.prog) (w := w) (mg := mg) (base := base) F9  G3 b3 k3 m3 y_sorted y_tuple
  have G10 := ok_Share (P := l.prog) (w := w) (mg := mg) (base := base) F10  G4 b4 k4 m4 G7 b7 k7 m7 y_abs
  have G11 := ok_Far (P := l.prog) (w := w) (mg := mg) (base := base) F11  G4 b4 k4 m4 G7 b7 k7 m7 
  have G12 := ok_Tail (P := l.prog) (w := w) (mg := mg) (base := base) F12  G5 b5 k5 m5 G11 b11 k11 m11 
  have G13 := ok_Lad (P := l.prog) (w := w) (mg := mg) (base := base) F13  G12 b12 k12 m12 G10 b10 k10 m10 y_tuple y_range
  have G14 := ok_Mov (P := l.prog) (w := w) (mg := mg) (base := base) F14 mO hO G5 b5 k5 m5 G6 b6 k6 m6 G4 b4 k4 m4 
  have G15 := ok_Row (P := l.prog) (w := w) (mg := mg) (base := base) F15 mO hO G14 b14 k14 m14 G9 b9 k9 m9 G4 b4 k4 m4 G13 b13 k13 m13 G5 b5 k5 m5 
  have G16 := ok_Rows (P := l.prog) (w := w) (mg := mg) (base := base) F16 mc1 MK1 G8 b8 k8 m8 G15 b15 k15 m15 y_tuple y_range
  have G17 := ok_deal (P := l.prog) (w := w) (mg := mg) (base := base) F17 y_max y_reversed y_list
  have G18 := ok_draw (P := l.prog) (w := w) (mg := mg) (base := base) F18 y_len
  have G19 := ok_LLow (P := l.prog) (w := w) (mg := mg) (base := base) F19   
  have G20 := ok_Stp (P := l.prog) (w := w) (mg := mg) (base := base) F20  G19 b19 k19 m19 G18 b18 k18 m18 
  have G21 := ok_LPow (P := l.prog) (w := w) (mg := mg) (base := base) F21   y_range
  have G22 := ok_LLad (P := l.prog) (w := w) (mg := mg) (base := base) F22  G21 b21 k21 m21 y_range y_abs y_int
  have G23 := ok_IsT (P := l.prog) (w := w) (mg := mg) (base := base) F23  G19 b19 k19 m19 y_isinstance y_tuple y_all y_bool y_range y_len y_min y_int
  have G24 := ok_Ref (P := l.prog) (w := w) (mg := mg) (base := base) F24 mc1 mc2 mc3 mc4 mc5 mc6 mc7 mD FM  y_isinstance y_ValueError
  have G25 := ok_Told (P := l.prog) (w := w) (mg := mg) (base := base) F25 mD UP W1 G16 b16 k16 m16 G24 b24 k24 m24 
  have G26 := ok_Comes (P := l.prog) (w := w) (mg := mg) (base := base) F26   y_range y_enumerate
  have G27 := ok_Right (P := l.prog) (w := w) (mg := mg) (base := base) F27  G25 b25 k25 m25 G26 b26 k26 m26 G23 b23 k23 m23 G22 b22 k22 m22 y_range y_all y_isinstance y_tuple y_len
  exact ok_Law F28 G17 b17 k17 m17 G20 b20 k20 m20 G18 b18 k18 m18 G27 b27 k27 m27 y_all y_min y_max
theorem walk {l : PySem.W.OpenLaw} {q : Program} {loose : List Str} {XP : (Str → Option Value) → Heap → Prop} {YP : World → Heap → Prop} {d : DefRec} {K : Params → PySem.W.Frag} (hn : l.most = some 63) (hdf : d.params.defaults = [])
    (hY : ∀ (w : World) (h : Heap), YP w h → (K w.params).In h)
    (F : ∀ (w : World) (mg : Str → Option Value) (fa : Addr) (h : Heap), (K w.params).In h → h.Ns mainGlobals mg → mg d.name = some (.ref fa) →
      ∃ fd : FuncData, (∀ (s : Shared) (u : Value), BindsTo s fd ⟨[u], []⟩ [("_law_script", u)]) ∧ ∀ base : Heap, (K w.params).In base → base.Ns mainGlobals mg → FnOk l.prog w (K w.params) mg base CX0 11 fa fd ["_law_script"] (spLaw (K w.params))) :
    PySem.W.WalkO q loose XP YP l.row.toRowW d [] (fun f vs => PySem.call f vs) :=
  L2.walk_of (n := 63) (k := 11) (x := "_law_script") (CX := fun _ => CX0) (sp := fun w => spLaw (K w.params)) hn (by decide) hdf ⟨rfl, by decide, by decide, rfl⟩ hY F (fun _ _ a ns hl _ hS => ⟨a, ns, rfl, hS, hl, fun _ => rfl⟩) fun _ _ _ _ _ z => z
end Mine
open PySem PySem.W PyProof.Rows
set_option maxRecDepth 100000 in
set_option maxHeartbeats 0 in
theorem PySem.Challenge.cw_pairedthrows_k34_rows_between_ladders_holds : PySem.Challenge.rw_pairedthrows_k34_rows_between_ladders.Holds := by
  w_on; o_law; k_head; (case hw => w_witness2)
  k_fill
  refine Mine.walk (l := PySem.Challenge.rw_pairedthrows_k34_rows_between_ladders) rfl rfl (fun w h Y => PySem.W.kIn_of Y) ?F
  case F =>
    intro w mg fa h KX G hmg
    refine' Mine.all_mk KX G hmg ?a1 ?l1 ?c1 ?k1 ?a2 ?l2 ?c2 ?k2 ?a3 ?l3 ?c3 ?k3 ?a4 ?l4 ?c4 ?k4 ?a5 ?l5 ?c5 ?k5 ?a6 ?l6 ?c6 ?k6 ?a7 ?l7 ?c7 ?k7 ?a8 ?l8 ?c8 ?k8 ?a9 ?l9 ?c9 ?k9 ?a10 ?l10 ?c10 ?k10 ?a11 ?l11 ?c11 ?k11 ?a12 ?l12 ?c12 ?k12 ?a13 ?l13 ?c13 ?k13 ?a14 ?l14 ?c14 ?k14 ?a15 ?l15 ?c15 ?k15 ?a16 ?l16 ?c16 ?k16 ?a17 ?l17 ?c17 ?k17 ?a18 ?l18 ?c18 ?k18 ?a19 ?l19 ?c19 ?k19 ?a20 ?l20 ?c20 ?k20 ?a21 ?l21 ?c21 ?k21 ?a22 ?l22 ?c22 ?k22 ?a23 ?l23 ?c23 ?k23 ?a24 ?l24 ?c24 ?k24 ?a25 ?l25 ?c25 ?k25 ?a26 ?l26 ?c26 ?k26 ?a27 ?l27 ?c27 ?k27 ?a28 ?l28 ?c28 ?k28 ?z_range ?z_sorted ?z_tuple ?z_abs ?z_max ?z_list ?z_reversed ?z_len ?z_int ?z_isinstance ?z_all ?z_bool ?z_min ?z_ValueError ?z_enumerate ?qO ?uO ?vO ?qD ?q1 ?q2 ?q3 ?q4 ?q5 ?q6 ?q7 ?uD ?u1 ?u2 ?ty2 ?u3 ?ty3 ?u4 ?ty4 ?u5 ?ty5 ?u6 ?ty6 ?u7 ?ty7 ?tnD ?ttD ?niD ?tn1 ?tt1 ?ni1 ?sa1 ?ga1 ?gh1 ?ca1 ?kp1 ?beD ?hg ?ht ?nr ?dnot
    (case a1 => k_is); (case l1 => k_is); (case c1 => k_is); (case k1 => k_is); (case a2 => k_is); (case l2 => k_is)
    (case c2 => k_is); (case k2 => k_is); (case a3 => k_is); (case l3 => k_is); (case c3 => k_is); (case k3 => k_is)
    (case a4 => k_is); (case l4 => k_is); (case c4 => k_is); (case k4 => k_is); (case a5 => k_is); (case l5 => k_is)
    (case c5 => k_is); (case k5 => k_is); (case a6 => k_is); (case l6 => k_is); (case c6 => k_is); (case k6 => k_is)
    (case a7 => k_is); (case l7 => k_is); (case c7 => k_is); (case k7 => k_is); (case a8 => k_is); (case l8 => k_is)
    (case c8 => k_is); (case k8 => k_is); (case a9 => k_is); (case l9 => k_is); (case c9 => k_is); (case k9 => k_is)
    (case a10 => k_is); (case l10 => k_is); (case c10 => k_is); (case k10 => k_is); (case a11 => k_is); (case l11 => k_is)
    (case c11 => k_is); (case k11 => k_is); (case a12 => k_is); (case l12 => k_is); (case c12 => k_is); (case k12 => k_is)
    (case a13 => k_is); (case l13 => k_is); (case c13 => k_is); (case k13 => k_is); (case a14 => k_is); (case l14 => k_is)
    (case c14 => k_is); (case k14 => k_is); (case a15 => k_is); (case l15 => k_is); (case c15 => k_is); (case k15 => k_is)
    (case a16 => k_is); (case l16 => k_is); (case c16 => k_is); (case k16 => k_is); (case a17 => k_is); (case l17 => k_is)
    (case c17 => k_is); (case k17 => k_is); (case a18 => k_is); (case l18 => k_is); (case c18 => k_is); (case k18 => k_is)
    (case a19 => k_is); (case l19 => k_is); (case c19 => k_is); (case k19 => k_is); (case a20 => k_is); (case l20 => k_is)
    (case c20 => k_is); (case k20 => k_is); (case a21 => k_is); (case l21 => k_is); (case c21 => k_is); (case k21 => k_is)
    (case a22 => k_is); (case l22 => k_is); (case c22 => k_is); (case k22 => k_is); (case a23 => k_is); (case l23 => k_is)
    (case c23 => k_is); (case k23 => k_is); (case a24 => k_is); (case l24 => k_is); (case c24 => k_is); (case k24 => k_is)
    (case a25 => k_is); (case l25 => k_is); (case c25 => k_is); (case k25 => k_is); (case a26 => k_is); (case l26 => k_is)
    (case c26 => k_is); (case k26 => k_is); (case a27 => k_is); (case l27 => k_is); (case c27 => k_is); (case k27 => k_is)
    (case a28 => k_is); (case l28 => k_is); (case c28 => k_is); (case k28 => k_is); (case z_range => k_is); (case z_sorted => k_is)
    (case z_tuple => k_is); (case z_abs => k_is); (case z_max => k_is); (case z_list => k_is); (case z_reversed => k_is); (case z_len => k_is)
    (case z_int => k_is); (case z_isinstance => k_is); (case z_all => k_is); (case z_bool => k_is); (case z_min => k_is); (case z_ValueError => k_is)
    (case z_enumerate => k_is); (case qO => k_is); (case uO => k_is); (case vO => exact .cons ⟨_, rfl⟩ (.cons ⟨_, rfl⟩ .nil)); (case qD => k_is); (case q1 => k_is)
    (case q2 => k_is); (case q3 => k_is); (case q4 => k_is); (case q5 => k_is); (case q6 => k_is); (case q7 => k_is)
    (case uD => k_is); (case u1 => k_is); (case u2 => k_is); (case ty2 => k_is); (case u3 => k_is); (case ty3 => k_is)
    (case u4 => k_is); (case ty4 => k_is); (case u5 => k_is); (case ty5 => k_is); (case u6 => k_is); (case ty6 => k_is)
    (case u7 => k_is); (case ty7 => k_is); (case tnD => k_is); (case ttD => rfl); (case niD => k_is); (case tn1 => k_is)
    (case tt1 => rfl); (case ni1 => k_is); (case sa1 => k_is); (case ga1 => k_is); (case gh1 => k_is); (case ca1 => k_is)
    (case kp1 => k_is); (case beD => k_is); (case hg => k_is); (case ht => k_is); (case nr => decide); (case dnot => decide)
