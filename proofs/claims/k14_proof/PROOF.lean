import PyProof.Rows.All
import Wide.All
import OpenK.AllK
import Wide.FinOn
import Lean
import PyProof.EqAt
import PyProof.EqKinds
import PyProof.TupleCall
import KE.KDictOf
import PyProof.AttrMissHeap
import KE.KSortTup
import PyProof.Rows.InDataRows
import KE.KRevSl
import KE.KIntText
import KE.IntTextLaws
import PyProof.StrBlockL
import PyProof.StrLawsChain
import PyProof.StrLawsTight
import PyProof.FString5
import PyProof.CallStr
import PyProof.ExcClass3
import PyProof.StationsW
import PyProof.RulesTry
import PyProof.Rows.CatchOwn
import OpenK.KCall
import OpenK.KRaise
import PyProof.InstSpecial
import PySem.Challenge.RW_pairedthrows_k14_terms_as_texts
set_option Elab.async false
set_option linter.all false
set_option maxRecDepth 100000
/-! THE HAND LAYER, for ints, bools, texts, own classes, DICTS (int and text keys), calls, loops. Paste it whole ahead of your own text; what your proof does not reach may be deleted. -/
namespace L2
open PySem PySem.Spec PyProof.Rows

/-- a key: an int or a str -/
abbrev Key := Sum Int Str
def keyIs : Key → Value → Bool
  | .inl k, v => Value.isInt k v
  | .inr x, v => Value.isStrOf x v
def keyH (w : World) : Key → Int
  | .inl k => hashInt k
  | .inr x => hashStr w x
theorem keyIs_shape : ∀ {k : Key} {v : Value}, keyIs k v = true → (∃ i t, k = Sum.inl i ∧ v = Value.int i t) ∨ (∃ x t, k = Sum.inr x ∧ v = Value.str x t)
  | .inl i, v, h => by
    obtain ⟨t, e⟩ := Value.isInt_shape (k := i) (v := v) h
    exact .inl ⟨i, t, rfl, e⟩
  | .inr x, v, h => by
    obtain ⟨t, e⟩ := Value.isStrOf_shape (x := x) (v := v) h
    exact .inr ⟨x, t, rfl, e⟩
theorem key_ll (a b : Int) : decide ((Sum.inl a : Key) = Sum.inl b) = (a == b) := by
  by_cases e : a = b
  · subst e; simp
  · have h : ¬ (Sum.inl a : Key) = Sum.inl b := fun q => e (Sum.inl.inj q)
    rw [decide_eq_false h]
    exact (beq_eq_false_iff_ne.mpr e).symm
theorem key_rr (a b : Str) : decide ((Sum.inr a : Key) = Sum.inr b) = decide (a = b) := by
  by_cases e : a = b
  · subst e; simp
  · have h : ¬ (Sum.inr a : Key) = Sum.inr b := fun q => e (Sum.inr.inj q)
    rw [decide_eq_false h, decide_eq_false e]
theorem key_lr (a : Int) (b : Str) : decide ((Sum.inl a : Key) = Sum.inr b) = false := decide_eq_false (fun q => nomatch q)
theorem key_rl (a : Str) (b : Int) : decide ((Sum.inr a : Key) = Sum.inl b) = false := decide_eq_false (fun q => nomatch q)

def mixKind (prog : Program) (w : World) : PySem.KeyKind prog w Key where
  is := keyIs
  hash := keyH w
  inj := fun v a b ha hb => by
    rcases keyIs_shape ha with ⟨i, t, rfl, rfl⟩ | ⟨x, t, rfl, rfl⟩
    · rcases keyIs_shape hb with ⟨j, u, rfl, e⟩ | ⟨y, u, rfl, e⟩
      · injection e with e1 _; rw [e1]
      · exact nomatch e
    · rcases keyIs_shape hb with ⟨j, u, rfl, e⟩ | ⟨y, u, rfl, e⟩
      · exact nomatch e
      · injection e with e1 _; rw [e1]
  byValue := fun k v h => by
    rcases keyIs_shape h with ⟨i, t, rfl, rfl⟩ | ⟨x, t, rfl, rfl⟩ <;> rfl
  pyHash := fun hv h => by
    rcases keyIs_shape hv with ⟨i, t, rfl, rfl⟩ | ⟨x, t, rfl, rfl⟩
    · exact wpAny_pyHash_int h
    · exact wpAny_pyHash_str h
  eqBool := fun hu hv h => by
    rcases keyIs_shape hu with ⟨i, t, rfl, rfl⟩ | ⟨x, t, rfl, rfl⟩
    · rcases keyIs_shape hv with ⟨j, u, rfl, rfl⟩ | ⟨y, u, rfl, rfl⟩
      · rw [key_ll] at h; exact wpAny_eqBool_int h
      · rw [key_lr] at h; exact SeqAt.EqAt.int_str i t y u _ _ _ _ h
    · rcases keyIs_shape hv with ⟨j, u, rfl, rfl⟩ | ⟨y, u, rfl, rfl⟩
      · rw [key_rl] at h; exact SeqAt.EqAt.str_int x t j u _ _ _ _ h
      · rw [key_rr] at h; exact wpAny_eqBool_str h
  «strs» := fun k x t v h => by
    rcases keyIs_shape h with ⟨i, u, rfl, e⟩ | ⟨y, u, rfl, e⟩
    · exact nomatch e
    · injection e with e1 _
      subst e1
      cases v <;> rfl

end L2

namespace L2
open PySem PySem.Spec PyProof.Rows

/-- a value, without the heap -/
inductive V where
  | non | bl (b : Bool) | int (i : Int) | str (x : Str) | byt (b : Array UInt8) | flt (b : UInt64) | ref (a : Addr) | ty (n : String)
  deriving DecidableEq

def RelV : V → Value → Prop
  | .non, u => u = Value.none
  | .bl b, u => u = Value.bool b
  | .int i, u => ∃ t, u = Value.int i t
  | .str x, u => ∃ t, u = Value.str x t
  | .byt b, u => ∃ t, u = Value.bytes b t
  | .flt b, u => ∃ t, u = Value.float b t
  | .ref a, u => u = Value.ref a
  | .ty n, u => u = Value.type n

abbrev Vals : List V → List Value → Prop := Paired RelV
theorem Vals.length {xs : List V} {us : List Value} (r : Vals xs us) : xs.length = us.length := Paired.length r
theorem Vals.get : ∀ {xs : List V} {us : List Value} {i : Nat} {x : V}, Vals xs us → xs[i]? = some x → ∃ u, us[i]? = some u ∧ RelV x u
  | _, _, _, _, .nil, e => by simp at e
  | _, _, 0, _, .cons r _, e => by simp at e; subst e; exact ⟨_, rfl, r⟩
  | _, _, i + 1, x, .cons _ t, e => by
    obtain ⟨u, h1, h2⟩ := Vals.get (i := i) (x := x) t (by simpa using e)
    exact ⟨u, by simpa using h1, h2⟩
theorem Vals.set {x : V} {u : Value} (r : RelV x u) : ∀ {xs : List V} {us : List Value} (i : Nat), Vals xs us → Vals (xs.set i x) (us.set i u)
  | _, _, _, .nil => .nil
  | _, _, 0, .cons _ t => .cons r t
  | _, _, i + 1, .cons q t => .cons q (Vals.set r i t)
theorem Vals.append : ∀ {xs ys : List V} {us ws : List Value}, Vals xs us → Vals ys ws → Vals (xs ++ ys) (us ++ ws)
  | _, _, _, _, .nil, s => s
  | _, _, _, _, .cons r t, s => .cons r (Vals.append t s)
def RelO : Option V → Option Value → Prop
  | some v, some u => RelV v u
  | none, none => True
  | _, _ => False
def KV {κ : Type} : List (κ × V) → List (κ × Value) → Prop := Paired fun (p : κ × V) (q : κ × Value) => p.1 = q.1 ∧ RelV p.2 q.2

/-- a key of a dict (00_mix): an int or a text -/
def kV : Key → V
  | .inl i => .int i
  | .inr x => .str x

/-- what stands at a tracked address -/
inductive HO where
  /-- a list -/
  | lst (xs : List V)
  /-- a tuple (never changes) -/
  | tup (xs : List V)
  /-- a dict whose keys are ints and texts; one whose keys are tuples of ints and texts (the empty one is both) -/
  | dK (kvs : List (Key × V)) | dT (kvs : List (List Key × V))
  /-- a set of ints: its members, its size -/
  | set (S : Int → Bool) (n : Nat)
  /-- an instance of the class at C, its dict at dx, its attributes -/
  | ins (C dx : Addr) (fs : List (Str × V))
  /-- the dict of the instance at x -/
  | own (x : Addr)
  /-- the dict of an exception -/
  | xd (fs : List (Str × V))
  /-- a bound method, f of x -/
  | met (f x : Addr)
  /-- a range object lo, lo + 1, .. below hi -/
  | rng (lo hi : Int)
  /-- a thing that is known to the object (the script; a dict while a loop walks it): read, never written while it is so -/
  | frz (o : Obj) (u : HO)
  /-- a code object's table -/
  | tbl (ps : Array Value)
  /-- any other thing, by what is true of its one object (a def of one's own: SetO a S n := HO.ext fun h => ..) -/
  | ext (φ : Heap → Prop)

abbrev Hp := Addr → Option HO
def upd (H : Hp) (a : Addr) (o : HO) : Hp := fun b => if b = a then some o else H b
theorem upd_same {H : Hp} {a : Addr} {o : HO} : upd H a o a = some o := by unfold upd; rw [if_pos rfl]
theorem upd_ne {H : Hp} {a b : Addr} {o : HO} (h : b ≠ a) : upd H a o b = H b := by unfold upd; rw [if_neg h]
/-- two objects of different content stand apart -/
theorem ne_of {H : Hp} {a b : Addr} {o u : HO} (h : H a = some o) (h' : H b = some u) (d : o ≠ u) : a ≠ b := by
  intro e; subst e; rw [h] at h'; exact d (Option.some.inj h')
theorem ne_of_none {H : Hp} {a b : Addr} {o : HO} (h : H a = some o) (h' : H b = none) : a ≠ b := by
  intro e; subst e; rw [h] at h'; cases h'

/-- a tuple without a dict -/
def IsTupD (h : Heap) (a : Addr) (its : Array Value) : Prop := ∃ o, h.get? a = some o ∧ o.cls = .type "tuple" ∧ ∃ n, o.data = .seq its n ∧ o.dict = none
theorem IsTupD.is {h : Heap} {a : Addr} {its : Array Value} (x : IsTupD h a its) : IsTup h a its := let ⟨o, e, c, n, d, _⟩ := x; ⟨o, e, c, n, d⟩
section
variable (P : Program) (w : World)
def ObjOk (H : Hp) (h : Heap) (a : Addr) : HO → Prop
  | .lst xs => xs.length ≤ sizeLine ∧ ∃ (its : List Value) (n : Nat), Vals xs its ∧ h.get? a = some { cls := .type "list", data := .seq its.toArray n }
  | .tup xs => xs.length ≤ sizeLine ∧ ∃ its : List Value, Vals xs its ∧ IsTupD h a its.toArray
  | .dK kvs => kvs.length ≤ sizeLine ∧ (a == sysModules) = false ∧ ∃ vs, KV kvs vs ∧ h.DictOf (mixKind P w) a vs
  | .dT kvs => kvs.length ≤ sizeLine ∧ (a == sysModules) = false ∧ ∃ xs : List (List Key × Addr × Value),
      Paired (fun (p : List Key × V) (q : List Key × Addr × Value) => p.1 = q.1 ∧ H q.2.1 = some (.tup (p.1.map kV)) ∧ RelV p.2 q.2.2) kvs xs ∧
      ∃ o es ep, h.get? a = some o ∧ o.ExactDict ∧ o.data = .dict es ep ∧ es.toList = xs.map (entryOfKey (tupleKind (mixKind P w))) ∧ (xs.map (·.1)).Nodup
  | .set S n => h.SetOf (intKind P w) a S n
  | .ins C dx fs => H dx = some (.own a) ∧ fs.length ≤ 1000 ∧ dx ≠ a ∧ h.get? a = some (PySem.W.instObj C dx) ∧
      ∃ mA, h.Ns1 dx mA ∧ (∀ f, RelO (fs.lookup f) (mA f)) ∧ PySem.Within mA (fs.map (·.1))
  | .own _ => ∃ o, h.get? a = some o
  | .xd fs => ∃ mA, h.Ns1 a mA ∧ ∀ f, RelO (fs.lookup f) (mA f)
  | .rng lo hi => ∃ t u v, h.get? a = some { cls := .type "range", data := .fields #[.int lo t, .int hi u, .int 1 v] }
  | .frz o u => h.get? a = some o ∧ ObjOk H h a u
  | .tbl ps => h.get? a = some { cls := .none, data := .fields ps }
  | .met f x => h.get? a = some (PySem.W.methodObj (.ref f) (.ref x))
  | .ext φ => φ h ∧ (∃ o, h.get? a = some o) ∧ ∀ h1 h2 : Heap, φ h1 → (∀ o, h1.get? a = some o → h2.get? a = some o) → φ h2
/-- the abstract heap is held -/
def HOk (H : Hp) (h : Heap) : Prop := ∀ a o, H a = some o → ObjOk P w H h a o
end

section
variable {P : Program} {w : World} {H H' : Hp} {h h' : Heap} {a : Addr} {o : HO}
theorem ObjOk.lt (x : ObjOk P w H h a o) : a < h.objs.size := by
  cases o with
  | lst xs => obtain ⟨_, _, _, _, e⟩ := x; exact Heap.lt_size e
  | tup xs => obtain ⟨_, _, _, p⟩ := x; exact p.is.lt
  | dK kvs => obtain ⟨_, _, _, _, o, _, _, e, _⟩ := x; exact Heap.lt_size e
  | dT kvs => obtain ⟨_, _, _, _, o, _, _, e, _⟩ := x; exact Heap.lt_size e
  | set S n => obtain ⟨o, _, _, _, e, _⟩ := x; exact Heap.lt_size e
  | ins C dx fs => obtain ⟨_, _, _, e, _⟩ := x; exact Heap.lt_size e
  | own y => obtain ⟨_, e⟩ := x; exact Heap.lt_size e
  | xd fs => obtain ⟨_, ⟨_, _, _, e, _⟩, _⟩ := x; exact Heap.lt_size e
  | rng lo hi => obtain ⟨_, _, _, e⟩ := x; exact Heap.lt_size e
  | frz ob u => obtain ⟨e, _⟩ := x; exact Heap.lt_size e
  | tbl ps => exact Heap.lt_size (show h.get? a = some _ from x)
  | met f y => exact Heap.lt_size (show h.get? a = some _ from x)
  | ext φ => obtain ⟨_, ⟨_, e⟩, _⟩ := x; exact Heap.lt_size e
theorem Paired.mapP {α β : Type} {F G : α → β → Prop} : ∀ {l₁ : List α} {l₂ : List β}, Paired F l₁ l₂ → (∀ a b, F a b → G a b) → Paired G l₁ l₂
  | _, _, .nil, _ => .nil
  | _, _, .cons r t, f => .cons (f _ _ r) (Paired.mapP t f)
/-- what an object's description leans on: its own object, its own dict, the tuples -/
theorem ObjOk.stay (x : ObjOk P w H h a o) (k : ∀ b u, (b = a ∨ H b = some (.own a)) → h.get? b = some u → h'.get? b = some u)
    (ho : ∀ b, H b = some (.own a) → H' b = some (.own a)) (ht : ∀ b xs, H b = some (.tup xs) → H' b = some (.tup xs)) : ObjOk P w H' h' a o := by
  induction o with
  | lst xs => obtain ⟨z, its, n, r, e⟩ := x; exact ⟨z, its, n, r, k _ _ (.inl rfl) e⟩
  | tup xs => obtain ⟨z, its, r, ob, e, c⟩ := x; exact ⟨z, its, r, ob, k _ _ (.inl rfl) e, c⟩
  | dK kvs => obtain ⟨z, y, vs, r, ob, es, ep, e, c⟩ := x; exact ⟨z, y, vs, r, ob, es, ep, k _ _ (.inl rfl) e, c⟩
  | dT kvs =>
    obtain ⟨z, y, xs, r, ob, es, ep, e, c⟩ := x
    exact ⟨z, y, xs, Paired.mapP r fun p q z => ⟨z.1, ht _ _ z.2.1, z.2.2⟩, ob, es, ep, k _ _ (.inl rfl) e, c⟩
  | set S n => obtain ⟨ob, es, ep, t, e, c⟩ := x; exact ⟨ob, es, ep, t, k _ _ (.inl rfl) e, c⟩
  | ins C dx fs =>
    obtain ⟨d, z, ne, e, mA, ⟨od, es, ep, e2, c⟩, r⟩ := x
    exact ⟨ho _ d, z, ne, k _ _ (.inl rfl) e, mA, ⟨od, es, ep, k _ _ (.inr d) e2, c⟩, r⟩
  | own y => obtain ⟨ob, e⟩ := x; exact ⟨ob, k _ _ (.inl rfl) e⟩
  | xd fs => obtain ⟨mA, ⟨od, es, ep, e, c⟩, r⟩ := x; exact ⟨mA, ⟨od, es, ep, k _ _ (.inl rfl) e, c⟩, r⟩
  | rng lo hi => obtain ⟨t, u, v, e⟩ := x; exact ⟨t, u, v, k _ _ (.inl rfl) e⟩
  | frz ob u ih => obtain ⟨e, q⟩ := x; exact ⟨k _ _ (.inl rfl) e, ih q⟩
  | tbl ps =>
    have e : h.get? a = some { cls := .none, data := .fields ps } := x
    show h'.get? a = some { cls := .none, data := .fields ps }
    exact k a _ (.inl rfl) e
  | met f y =>
    have e : h.get? a = some (PySem.W.methodObj (.ref f) (.ref y)) := x
    show h'.get? a = some (PySem.W.methodObj (.ref f) (.ref y))
    exact k a _ (.inl rfl) e
  | ext φ => obtain ⟨p, ⟨o, e⟩, st⟩ := x; exact ⟨st _ _ p fun o q => k _ _ (.inl rfl) q, ⟨o, k _ _ (.inl rfl) e⟩, st⟩
theorem HOk.lt (x : HOk P w H h) (e : H a = some o) : a < h.objs.size := (x a o e).lt
theorem HOk.fresh (x : HOk P w H h) (e : h.objs.size ≤ a) : H a = none := by
  cases q : H a with
  | none => rfl
  | some u => exact absurd (Nat.lt_of_lt_of_le (x.lt q) e) (Nat.lt_irrefl _)
/-- every object of the heap is kept -/
theorem HOk.kept (x : HOk P w H h) (k : ∀ b u, h.get? b = some u → h'.get? b = some u) : HOk P w H h' := fun a o e =>
  (x a o e).stay (fun b u _ q => k b u q) (fun _ q => q) fun _ _ q => q
/-- a new object is laid and tracked -/
theorem HOk.laid (x : HOk P w H h) (k : ∀ b u, h.get? b = some u → h'.get? b = some u) (hp : h.objs.size ≤ a) (new : ObjOk P w (upd H a o) h' a o) : HOk P w (upd H a o) h' := fun b u e => by
  have hn := x.fresh hp
  by_cases hb : b = a
  · subst hb; rw [upd_same] at e; cases e; exact new
  · rw [upd_ne hb] at e
    exact (x b u e).stay (fun c v _ q => k c v q) (fun c q => by rw [upd_ne (ne_of_none q hn)]; exact q) fun c xs q => by rw [upd_ne (ne_of_none q hn)]; exact q
end

/-- what may be read as u: it is u, or a known u -/
def Rd (H : Hp) (a : Addr) (u : HO) : Prop := H a = some u ∨ ∃ o, H a = some (.frz o u)
theorem Rd.ok {P : Program} {w : World} {H : Hp} {h : Heap} {a : Addr} {u : HO} (r : Rd H a u) (x : HOk P w H h) : ObjOk P w H h a u := by
  rcases r with r | ⟨o, r⟩
  · exact x a u r
  · obtain ⟨_, q⟩ := x a _ r
    exact q
/-- what may be written -/
def Mut : Option HO → Prop
  | some (.lst _) => True
  | some (.dK _) => True
  | some (.dT _) => True
  | some (.set _ _) => True
  | some (.ins _ _ _) => True
  | some (.ext _) => True
  | _ => False
section
variable {P : Program} {w : World} {H : Hp} {h h' : Heap} {x e : Addr} {o' : HO}
/-- the object at e is changed: x itself, or the dict of the instance x -/
theorem HOk.write (ok : HOk P w H h) (mu : Mut (H x)) (he : e = x ∨ H e = some (.own x)) (k : ∀ b u, b ≠ e → h.get? b = some u → h'.get? b = some u) (heo : ∃ u, h'.get? e = some u)
    (new : ObjOk P w (upd H x o') h' x o') : HOk P w (upd H x o') h' := fun b u q => by
  have nown : ∀ c y, H c = some (.own y) → c ≠ x := fun c y r z => by subst z; rw [r] at mu; exact mu
  have ntup : ∀ c xs, H c = some (.tup xs) → c ≠ x := fun c xs r z => by subst z; rw [r] at mu; exact mu
  by_cases hb : b = x
  · subst hb; rw [upd_same] at q; cases q; exact new
  · rw [upd_ne hb] at q
    by_cases hbe : b = e
    · have q' : H b = some (.own x) := by
        rcases he with z | z
        · exact absurd (hbe.trans z) hb
        · rw [hbe]; exact z
      rw [q] at q'; cases q'
      obtain ⟨v, hv⟩ := heo
      exact ⟨v, by rw [hbe]; exact hv⟩
    · refine (ok b u q).stay (fun c v hc r => k c v ?_ r) (fun c r => by rw [upd_ne (nown c b r)]; exact r) fun c xs r => by rw [upd_ne (ntup c xs r)]; exact r
      rcases hc with rfl | hc
      · exact hbe
      · rintro rfl
        rcases he with z | z
        · exact nown c b hc z
        · rw [hc] at z; cases z; exact hb rfl
end

/-! ### kept unless tracked; of the frames at fs (the callers') the slots may change (an exception that passes writes there); of the records at ex (iterators) nothing is said -/
structure Un (fs ex : List Addr) (H H' : Hp) (h h' : Heap) : Prop where
  keep : ∀ b o, h.get? b = some o → H b = none → b ∉ fs → b ∉ ex → h'.get? b = some o
  slot : ∀ b o, h.get? b = some o → H b = none → b ∈ fs → b ∉ ex → ∃ sl, h'.get? b = some { o with slots := sl }
  free : ∀ b o, h.get? b = some o → H b = none → b ∉ ex → H' b = none
  there : ∀ b o, h.get? b = some o → b ∉ ex → ∃ o', h'.get? b = some o'
  tups : ∀ b xs, H b = some (.tup xs) → H' b = some (.tup xs)
  frzs : ∀ b o u, H b = some (.frz o u) → H' b = some (.frz o u)
  tbls : ∀ b ps, H b = some (.tbl ps) → ∃ more, H' b = some (.tbl (ps ++ more))
section
variable {fs fs' ex ex' : List Addr} {H H1 H2 : Hp} {h h1 h2 h' : Heap} {a x e : Addr} {o : HO}
theorem Un.any (u : Un fs ex H H1 h h1) {b : Addr} {ob : Obj} (q : h.get? b = some ob) (n : H b = none) (hx : b ∉ ex) : ∃ sl, h1.get? b = some { ob with slots := sl } := by
  by_cases hb : b ∈ fs
  · exact u.slot b ob q n hb hx
  · exact ⟨ob.slots, u.keep b ob q n hb hx⟩
theorem Un.kept (k : ∀ b u, h.get? b = some u → h'.get? b = some u) : Un fs ex H H h h' :=
  ⟨fun b ob q _ _ _ => k b ob q, fun b ob q _ _ _ => ⟨ob.slots, k b ob q⟩, fun _ _ _ n _ => n, fun b ob q _ => ⟨ob, k b ob q⟩, fun _ _ q => q, fun _ _ _ q => q, fun _ ps q => ⟨#[], by rw [q]; simp⟩⟩
theorem Un.refl : Un fs ex H H h h := Un.kept fun _ _ q => q
theorem Un.laid (k : ∀ b u, h.get? b = some u → h'.get? b = some u) (hp : h.objs.size ≤ a) (hn : H a = none) : Un fs ex H (upd H a o) h h' where
  keep := fun b u q _ _ _ => k b u q
  slot := fun b u q _ _ _ => ⟨u.slots, k b u q⟩
  free := fun b u q n _ => by rw [upd_ne (Nat.ne_of_lt (Nat.lt_of_lt_of_le (Heap.lt_size q) hp))]; exact n
  there := fun b u q _ => ⟨u, k b u q⟩
  tups := fun b xs q => by rw [upd_ne (ne_of_none q hn)]; exact q
  frzs := fun b u xs q => by rw [upd_ne (ne_of_none q hn)]; exact q
  tbls := fun b ps q => ⟨#[], by rw [upd_ne (ne_of_none q hn), q]; simp⟩
theorem Un.write (mu : Mut (H x)) (he : e = x ∨ H e = some (.own x)) (k : ∀ b u, b ≠ e → h.get? b = some u → h'.get? b = some u) (heo : ∃ u, h'.get? e = some u) : Un fs ex H (upd H x o) h h' := by
  have hx : ∀ b, H b = none → b ≠ x := fun b n z => by subst z; rw [n] at mu; exact mu
  have hb : ∀ b, H b = none → b ≠ e := fun b n z => by
    subst z
    rcases he with r | r
    · exact hx b n r
    · rw [n] at r; cases r
  have hm : ∀ b u, H b = some u → ¬ Mut (some u) → b ≠ x := fun b u q nm z => by subst z; rw [q] at mu; exact nm mu
  refine ⟨fun b u q n _ _ => k b u (hb b n) q, fun b u q n _ _ => ⟨u.slots, k b u (hb b n) q⟩, fun b u q n _ => by rw [upd_ne (hx b n)]; exact n, fun b u q _ => ?_,
    fun b xs q => by rw [upd_ne (hm b _ q fun z => z)]; exact q, fun b u xs q => by rw [upd_ne (hm b _ q fun z => z)]; exact q, fun b ps q => ⟨#[], by rw [upd_ne (hm b _ q fun z => z), q]; simp⟩⟩
  by_cases hbe : b = e
  · subst hbe; exact heo
  · exact ⟨u, k b u hbe q⟩
end

/-! ### the heap without what is tracked -/
def trk (h : Heap) (H : Hp) : List Addr := (List.range h.objs.size).filter fun a => (H a).isSome
def hidT (h : Heap) (H : Hp) : Heap := PySem.W.hideAll h (trk h H)
theorem hidT_size (h : Heap) (H : Hp) : (hidT h H).objs.size = h.objs.size := PySem.W.hideAll_size _ _
theorem hidT_get {h : Heap} {H : Hp} {b : Addr} {o : Obj} (e : h.get? b = some o) (n : H b = none) : (hidT h H).get? b = some o :=
  PySem.W.hideAll_get _ e fun hm => by
    have q : (H b).isSome = true := (List.mem_filter.mp hm).2
    rw [n] at q; simp at q
theorem of_hidT {h : Heap} {H : Hp} {b : Addr} {o : Obj} (e : (hidT h H).get? b = some o) : h.get? b = some o ∧ H b = none := by
  have e' : h.get? b = some o := PySem.W.of_hideAll (trk h H) e
  refine ⟨e', ?_⟩
  cases q : H b with
  | none => rfl
  | some x =>
    have hm : b ∈ trk h H := List.mem_filter.mpr ⟨List.mem_range.mpr (Heap.lt_size e'), by simp [q]⟩
    have z : (hidT h H).get? b = none := PySem.W.hideAll_none (trk h H) hm
    rw [z] at e; cases e

/-! ### OpenK's ledger, filled with every new object but one -/
def allNews (g h : Heap) (L : Addr) : List (Addr × Obj) := (List.range h.objs.size).filterMap fun a => if a = L ∨ (g.get? a).isSome = true then none else (h.get? a).map fun o => (a, o)
def rest (g h : Heap) (L d : Addr) : List (Addr × Obj) := (allNews g h L).filter fun p => decide (p.1 ≠ d)
end L2

namespace L2
open PySem PySem.Spec PyProof.Rows

/-- the module's facts, over the base: the heap at the law's entry without what is tracked there -/
structure Mod (K : PySem.W.Frag) (mg : Str → Option Value) (base : Heap) : Prop where
  kin : K.In base
  glob : base.Ns mainGlobals mg
  blt : ∃ mb, base.Ns builtinsNs mb ∧ ∀ x : Str, x ≠ "__name__" → mb x = bootBuiltins x
  nolimit : base.NoLimit

/-- the context: a def's body (or a comprehension's block) running. base: fixed through the whole law; s₀, H₀: the entry; outer: the frames whose slots others may change (a def's callers); stack: all frames that run;
   ex: iterators that were made ahead of the entry and are walked here (a comprehension's); fn: the names whose cells were made at the entry (a def: all; a comprehension's block: its own); calm: not within an except suite; pn: pins that every state bears; xe: what is wanted of an exception that leaves the code -/
structure Cx where
  prog : Program
  w : World
  K : PySem.W.Frag
  mg : Str → Option Value
  base : Heap
  A : Around
  N : List Str
  s₀ : Shared
  H₀ : Hp
  env : Env
  outer : List Env
  stack : List Env
  ex : List Addr
  fn : Str → Bool
  calm : Bool
  pn : List (Addr × Obj)
  xe : Value → Shared → Prop
/-- the callers' frames -/
def frs (l : List Env) : List Addr := l.filterMap (·.frame)
abbrev Cx.fs (X : Cx) : List Addr := frs X.outer

def Vis (sc : Scope) (x : Str) : Prop := sc.names.lookup x = some .local ∨ sc.names.lookup x = some .cell ∨ sc.names.lookup x = some .free
def Loc (sc : Scope) (x : Str) : Prop := sc.names.lookup x = some .local ∨ sc.names.lookup x = some .cell
def Look (env : Env) (h : Heap) (m : Str → Option Value) (x : Str) (u : Value) : Prop :=
  (env.kindOf x = some .local ∧ m x = some u) ∨ ((env.kindOf x = some .cell ∨ env.kindOf x = some .free) ∧ ∃ c, env.cells.lookup x = some c ∧ h.IsCell c (some u))

structure Cx.Ok (X : Cx) : Prop where
  mod : Mod X.K X.mg X.base
  kind : X.env.scope.kind = .function
  glob : X.env.globals = mainGlobals
  blt : X.env.builtins = builtinsNs
  above : X.s₀.heap.objs.size ≤ X.env.locals
  inj : ∀ x y c, X.env.cells.lookup x = some c → X.env.cells.lookup y = some c → x = y
  has : ∀ x, (X.env.kindOf x = some .cell ∨ X.env.kindOf x = some .free) → ∃ c, X.env.cells.lookup x = some c
  cab : ∀ x c, X.fn x = true → X.env.cells.lookup x = some c → X.s₀.heap.objs.size ≤ c
  hd : X.calm = true → X.A.handled = none
  frames : X.A.frames = some X.stack
  stk : X.stack = X.outer ∨ (X.stack = X.env :: X.outer ∧ X.env.frame = some X.env.locals)
  exf : ∀ b ∈ X.ex, b ≠ X.env.locals ∧ ∀ x c, X.env.cells.lookup x = some c → c ≠ b
  bs : ∀ b o, X.base.get? b = some o → X.s₀.heap.get? b = some o ∧ X.H₀ b = none
  bsz : X.base.objs.size ≤ X.s₀.heap.objs.size
  noex : ∀ b o, X.base.get? b = some o → b ∉ X.ex
  exfs : ∀ b ∈ X.ex, b ∉ X.fs
  funs : X.s₀.heap.FunFrames X.base X.outer
  frf : ∀ b ∈ X.fs, X.H₀ b = none

structure Inv (X : Cx) (pins : List (Addr × Obj)) (σ : List (Option V)) (H : Hp) (s : Shared) : Prop where
  ok : X.Ok
  os : s.os = X.s₀.os
  bare : AllBare s.gens
  base : Un X.fs X.ex X.H₀ H X.s₀.heap s.heap
  loc : ∃ m, s.heap.Ns X.env.locals m ∧ ∀ (i : Nat) (x : Str) (v : V), X.N[i]? = some x → σ[i]? = some (some v) → Vis X.env.scope x → ∃ u, RelV v u ∧ Look X.env s.heap m x u
  cell : ∀ x c, X.env.cells.lookup x = some c → ∃ v, s.heap.IsCell c v
  free : H X.env.locals = none
  freeC : ∀ x c, X.env.cells.lookup x = some c → H c = none
  pin : ∀ p ∈ X.pn ++ pins, s.heap.get? p.1 = some p.2 ∧ H p.1 = none ∧ p.1 ≠ X.env.locals ∧ p.1 ∉ X.fs ∧ ∀ v, p.2.data ≠ .cell v
  hok : HOk X.prog X.w H s.heap
  len : σ.length = X.N.length

section
variable {X : Cx} {pins : List (Addr × Obj)} {σ : List (Option V)} {H H' : Hp} {s : Shared} {h' : Heap}

theorem Cx.Ok.nofr (ok : X.Ok) {b : Addr} {o : Obj} (e : X.base.get? b = some o) : b ∉ X.fs := fun hb => by
  have := (ok.funs.mem hb).1
  rw [e] at this; cases this
theorem Inv.bs (I : Inv X pins σ H s) : ∀ b o, X.base.get? b = some o → s.heap.get? b = some o ∧ H b = none := fun b o e =>
  ⟨I.base.keep b o (I.ok.bs b o e).1 (I.ok.bs b o e).2 (I.ok.nofr e) (I.ok.noex b o e), I.base.free b o (I.ok.bs b o e).1 (I.ok.bs b o e).2 (I.ok.noex b o e)⟩
theorem Inv.bk (I : Inv X pins σ H s) : ∀ b o, X.base.get? b = some o → s.heap.get? b = some o := fun b o e => (I.bs b o e).1
theorem Inv.mod (I : Inv X pins σ H s) : Mod X.K X.mg X.base := I.ok.mod
theorem Inv.kIn (I : Inv X pins σ H s) : X.K.In s.heap := I.ok.mod.kin.keeps I.bk
theorem Inv.lt (I : Inv X pins σ H s) : X.env.locals < s.heap.objs.size := let ⟨_, hn, _⟩ := I.loc; hn.lt
theorem Inv.sz (I : Inv X pins σ H s) : X.s₀.heap.objs.size ≤ s.heap.objs.size := Nat.le_trans I.ok.above (Nat.le_of_lt I.lt)
theorem Inv.nofs (I : Inv X pins σ H s) {a : Addr} (h : s.heap.objs.size ≤ a) : a ∉ X.fs := fun hb => by
  obtain ⟨_, o, ho, _⟩ := I.ok.funs.mem hb
  exact absurd (Nat.lt_of_lt_of_le (Heap.lt_size ho) (Nat.le_trans I.sz h)) (Nat.lt_irrefl _)
theorem Inv.cne (I : Inv X pins σ H s) : ∀ x c, X.env.cells.lookup x = some c → c ≠ X.env.locals := fun x c e z => by
  obtain ⟨v, o, ho, hd⟩ := I.cell x c e
  obtain ⟨m, ⟨o', es, ep, ho', hd', _⟩, _⟩ := I.loc
  rw [z, ho'] at ho; cases ho; rw [hd'] at hd; cases hd
theorem Inv.funs (I : Inv X pins σ H s) : s.heap.FunFrames X.base X.outer := by
  have all : ∀ (l : List Env), (∀ b ∈ frs l, b ∈ X.fs) → X.s₀.heap.FunFrames X.base l → s.heap.FunFrames X.base l := by
    intro l
    induction l with
    | nil => intro _ _; trivial
    | cons env r ih =>
      intro hs hl
      obtain ⟨hk, ⟨L, o, hf, hn, ho, hd⟩, hr⟩ := hl
      have hL : L ∈ X.fs := hs L (by unfold frs; rw [List.filterMap_cons, hf]; exact List.mem_cons_self)
      obtain ⟨sl, e⟩ := I.base.slot L o ho (I.ok.frf L hL) hL fun z => I.ok.exfs L z hL
      exact ⟨hk, ⟨L, _, hf, hn, e, hd⟩, ih (fun b hb => hs b (by unfold frs; rw [List.filterMap_cons, hf]; exact List.mem_cons_of_mem _ hb)) hr⟩
  exact all X.outer (fun _ hb => hb) I.ok.funs

/-- the frames that run, for a call -/
theorem Inv.stack (I : Inv X pins σ H s) : s.heap.FunFrames X.base X.stack := by
  rcases I.ok.stk with e | ⟨e, hf⟩
  · rw [e]; exact I.funs
  · rw [e]
    obtain ⟨m, hn, _⟩ := I.loc
    refine .cons (by rw [I.ok.kind]; decide) hf hn ?_ I.funs
    exact Heap.get?_none_of_le (Nat.le_trans I.ok.bsz I.ok.above)
theorem Inv.stkSub (I : Inv X pins σ H s) : ∀ b ∈ frs X.stack, b ∈ X.env.locals :: X.fs := fun b hb => by
  rcases I.ok.stk with e | ⟨e, hf⟩
  · rw [e] at hb; exact List.mem_cons_of_mem _ hb
  · rw [e] at hb
    unfold frs at hb
    rw [List.filterMap_cons, hf] at hb
    exact hb
theorem Inv.stkFree (I : Inv X pins σ H s) : ∀ b ∈ frs X.stack, H b = none := fun b hb => by
  rcases List.mem_cons.mp (I.stkSub b hb) with e | hb
  · rw [e]; exact I.free
  · obtain ⟨_, o, ho, _⟩ := I.ok.funs.mem hb
    exact I.base.free b o ho (I.ok.frf b hb) fun z => I.ok.exfs b z hb

/-- THE STEP: the untracked objects but the frame and the records at ch are kept (the callers' frames up to slots), the frame's map is kept, the new abstract heap is held -/
theorem Inv.step {g' : Array GenState} {t' : Nat} {d' : Drawn} {ch : List Addr} (I : Inv X pins σ H s)
    (hch : ∀ b ∈ ch, (b ∈ X.ex ∨ X.s₀.heap.objs.size ≤ b) ∧ b ≠ X.env.locals ∧ (∀ x c, X.env.cells.lookup x = some c → c ≠ b) ∧ ∀ p ∈ X.pn ++ pins, p.1 ≠ b)
    (keep : ∀ b o, b ≠ X.env.locals → b ∉ X.fs → b ∉ ch → s.heap.get? b = some o → H b = none → h'.get? b = some o)
    (slot : ∀ b o, b ≠ X.env.locals → b ∈ X.fs → b ∉ ch → s.heap.get? b = some o → H b = none → ∃ sl, h'.get? b = some { o with slots := sl }) (free : ∀ b o, b ∉ ch → s.heap.get? b = some o → H b = none → H' b = none)
    (there : ∀ b o, b ∉ ch → s.heap.get? b = some o → ∃ o', h'.get? b = some o')
    (tups : ∀ b xs, H b = some (.tup xs) → H' b = some (.tup xs)) (frzs : ∀ b o u, H b = some (.frz o u) → H' b = some (.frz o u)) (tbls : ∀ b ps, H b = some (.tbl ps) → ∃ more, H' b = some (.tbl (ps ++ more)))
    (ns : ∀ m, s.heap.Ns X.env.locals m → h'.Ns X.env.locals m) (hok : HOk X.prog X.w H' h') (hg : AllBare g') :
    Inv X pins σ H' { s with heap := h', gens := g', drawn := d', toks := t' } := by
  have neL : ∀ b o, X.s₀.heap.get? b = some o → b ≠ X.env.locals := fun b o e => Nat.ne_of_lt (Nat.lt_of_lt_of_le (Heap.lt_size e) I.ok.above)
  have neC : ∀ b o, X.s₀.heap.get? b = some o → b ∉ X.ex → b ∉ ch := fun b o e hx hb => by
    rcases (hch b hb).1 with z | z
    · exact hx z
    · exact absurd (Nat.lt_of_lt_of_le (Heap.lt_size e) z) (Nat.lt_irrefl _)
  have cellK : ∀ x c, X.env.cells.lookup x = some c → ∀ v, s.heap.IsCell c v → h'.IsCell c v := fun x c e v ⟨o, ho, hd⟩ => by
    have nch : c ∉ ch := fun z => (hch c z).2.2.1 x c e rfl
    by_cases hc : c ∈ X.fs
    · obtain ⟨sl, q⟩ := slot c o (I.cne x c e) hc nch ho (I.freeC x c e)
      exact ⟨_, q, hd⟩
    · exact ⟨o, keep c o (I.cne x c e) hc nch ho (I.freeC x c e), hd⟩
  refine ⟨I.ok, I.os, hg, ⟨fun b o e n hb hx => ?_, fun b o e n hb hx => ?_, fun b o e n hx => ?_, fun b o e hx => ?_, fun b xs e => tups b xs (I.base.tups b xs e), fun b o xs e => frzs b o xs (I.base.frzs b o xs e), fun b ps e => ?_⟩, ?_, fun x c e => ?_, ?_, fun x c e => ?_, fun p hp => ?_, hok, I.len⟩
  · exact keep b o (neL b o e) hb (neC b o e hx) (I.base.keep b o e n hb hx) (I.base.free b o e n hx)
  · obtain ⟨sl, e1⟩ := I.base.slot b o e n hb hx
    obtain ⟨sl', e2⟩ := slot b _ (neL b o e) hb (neC b o e hx) e1 (I.base.free b o e n hx)
    exact ⟨sl', e2⟩
  · obtain ⟨o', e1⟩ := I.base.there b o e hx
    exact free b o' (neC b o e hx) e1 (I.base.free b o e n hx)
  · obtain ⟨o', e1⟩ := I.base.there b o e hx
    exact there b o' (neC b o e hx) e1
  · obtain ⟨m1, e1⟩ := I.base.tbls b ps e
    obtain ⟨m2, e2⟩ := tbls b _ e1
    exact ⟨m1 ++ m2, by rw [e2, Array.append_assoc]⟩
  · obtain ⟨m, hn, hl⟩ := I.loc
    refine ⟨m, ns m hn, fun i x v e1 e2 e3 => ?_⟩
    obtain ⟨u, r, l⟩ := hl i x v e1 e2 e3
    refine ⟨u, r, ?_⟩
    rcases l with l | ⟨k, c, e, z⟩
    · exact .inl l
    · exact .inr ⟨k, c, e, cellK x c e _ z⟩
  · obtain ⟨v, z⟩ := I.cell x c e
    exact ⟨v, cellK x c e v z⟩
  · obtain ⟨m, ⟨o, _, _, ho, _⟩, _⟩ := I.loc
    exact free _ o (fun z => (hch _ z).2.1 rfl) ho I.free
  · obtain ⟨v, o, ho, hd⟩ := I.cell x c e
    exact free c o (fun z => (hch c z).2.2.1 x c e rfl) ho (I.freeC x c e)
  · obtain ⟨e, n, ne, nf, d⟩ := I.pin p hp
    have nch : p.1 ∉ ch := fun z => (hch p.1 z).2.2.2 p hp rfl
    exact ⟨keep p.1 p.2 ne nf nch e n, free p.1 p.2 nch e n, ne, nf, d⟩
/-- .. where the frame's own object is kept too -/
theorem Inv.un {t' : Nat} (I : Inv X pins σ H s) (u : Un X.fs [] H H' s.heap h') (hok : HOk X.prog X.w H' h') : Inv X pins σ H' { s with heap := h', toks := t' } := by
  obtain ⟨m, ⟨o, es, ep, ho, r⟩, _⟩ := id I.loc
  obtain ⟨sl, hL⟩ := u.any ho I.free (by simp)
  exact I.step (g' := s.gens) (d' := s.drawn) (ch := []) (fun _ z => nomatch z) (fun b o _ hb _ e n => u.keep b o e n hb (by simp)) (fun b o _ hb _ e n => u.slot b o e n hb (by simp)) (fun b o _ e n => u.free b o e n (by simp)) (fun b o _ e => u.there b o e (by simp)) u.tups u.frzs u.tbls (fun m' hm => by
    obtain ⟨o', es', ep', ho', r'⟩ := hm
    rw [ho] at ho'; cases ho'
    exact ⟨_, es', ep', hL, r'⟩) hok I.bare
/-- behind a call (or a comprehension's block): the slots of this frame may have changed too, the records at ch may have turned -/
theorem Inv.call {g' : Array GenState} {t' : Nat} {d' : Drawn} {ch : List Addr} (I : Inv X pins σ H s) (u : Un (frs X.stack) ch H H' s.heap h') (hok : HOk X.prog X.w H' h') (hg : AllBare g')
    (hch : ∀ b ∈ ch, (b ∈ X.ex ∨ X.s₀.heap.objs.size ≤ b) ∧ b ≠ X.env.locals ∧ (∀ x c, X.env.cells.lookup x = some c → c ≠ b) ∧ ∀ p ∈ X.pn ++ pins, p.1 ≠ b) :
    Inv X pins σ H' { s with heap := h', gens := g', drawn := d', toks := t' } := by
  obtain ⟨m, ⟨o, es, ep, ho, r⟩, _⟩ := id I.loc
  obtain ⟨sl, hL⟩ := u.any ho I.free fun z => (hch _ z).2.1 rfl
  exact I.step (ch := ch) hch (fun b o hL hb hc e n => u.keep b o e n (fun z => (List.mem_cons.mp (I.stkSub b z)).elim hL hb) hc) (fun b o _ _ hc e n => u.any e n hc) (fun b o hc e n => u.free b o e n hc) (fun b o hc e => u.there b o e hc) u.tups u.frzs u.tbls (fun m' hm => by
    obtain ⟨o', es', ep', ho', r'⟩ := hm
    rw [ho] at ho'; cases ho'
    exact ⟨_, es', ep', hL, r'⟩) hok hg
/-- an untracked record of ours (an iterator) has turned -/
theorem Inv.turned {t' : Nat} {it : Addr} (I : Inv X pins σ H s) (k : ∀ b o, b ≠ it → s.heap.get? b = some o → h'.get? b = some o) (hn : H it = none) (hL : it ≠ X.env.locals)
    (h1 : it ∈ X.ex ∨ X.s₀.heap.objs.size ≤ it) (h2 : ∀ x c, X.env.cells.lookup x = some c → c ≠ it) (h3 : ∀ p ∈ X.pn ++ pins, p.1 ≠ it) : Inv X pins σ H { s with heap := h', toks := t' } := by
  have nit : ∀ b u, H b = some u → b ≠ it := fun b u e z => by rw [z, hn] at e; cases e
  refine I.step (g' := s.gens) (d' := s.drawn) (ch := [it]) (fun b hb => ?_) (fun b o _ _ hc e _ => k b o (fun z => hc (by simp [z])) e) (fun b o _ _ hc e _ => ⟨o.slots, k b o (fun z => hc (by simp [z])) e⟩) (fun _ _ _ _ n => n)
    (fun b o hc e => ⟨o, k b o (fun z => hc (by simp [z])) e⟩) (fun _ _ e => e) (fun _ _ _ e => e) (fun b ps e => ⟨#[], by rw [e]; simp⟩) (fun m hm => ?_) (fun b u e => ?_) I.bare
  · have e : b = it := by simpa using hb
    subst e
    exact ⟨h1, hL, h2, h3⟩
  · obtain ⟨o, es, ep, ho, r⟩ := hm
    exact ⟨o, es, ep, k _ o (Ne.symm hL) ho, r⟩
  · refine (I.hok b u e).stay (fun c v hc q => k c v ?_ q) (fun _ q => q) fun _ _ q => q
    rcases hc with z | z
    · rw [z]; exact nit b u e
    · exact nit c _ z
theorem Inv.tok (I : Inv X pins σ H s) (t : Nat) : Inv X pins σ H { s with toks := t } := I.un (h' := s.heap) (t' := t) Un.refl I.hok
/-- all objects kept -/
theorem Inv.kept {t' : Nat} (I : Inv X pins σ H s) (k : ∀ b u, s.heap.get? b = some u → h'.get? b = some u) : Inv X pins σ H { s with heap := h', toks := t' } := I.un (Un.kept k) (I.hok.kept k)
/-- a new object laid and tracked -/
theorem Inv.laid {a : Addr} {o : HO} {t' : Nat} (I : Inv X pins σ H s) (k : ∀ b u, s.heap.get? b = some u → h'.get? b = some u) (hp : s.heap.objs.size ≤ a) (new : ObjOk X.prog X.w (upd H a o) h' a o) :
    Inv X pins σ (upd H a o) { s with heap := h', toks := t' } := I.un (Un.laid k hp (I.hok.fresh hp)) (I.hok.laid k hp new)
/-- an object written -/
theorem Inv.write {x e : Addr} {o : HO} {t' : Nat} (I : Inv X pins σ H s) (mu : Mut (H x)) (he : e = x ∨ H e = some (.own x)) (k : ∀ b u, b ≠ e → s.heap.get? b = some u → h'.get? b = some u) (heo : ∃ u, h'.get? e = some u)
    (new : ObjOk X.prog X.w (upd H x o) h' x o) : Inv X pins σ (upd H x o) { s with heap := h', toks := t' } := I.un (Un.write mu he k heo) (I.hok.write mu he k heo new)
theorem Inv.pins_of {pins' : List (Addr × Obj)} (I : Inv X pins σ H s) (h : ∀ p ∈ pins', s.heap.get? p.1 = some p.2 ∧ H p.1 = none ∧ p.1 ≠ X.env.locals ∧ p.1 ∉ X.fs ∧ ∀ v, p.2.data ≠ .cell v) : Inv X pins' σ H s :=
  ⟨I.ok, I.os, I.bare, I.base, I.loc, I.cell, I.free, I.freeC, fun p hp => (List.mem_append.mp hp).elim (fun z => I.pin p (List.mem_append_left _ z)) (h p), I.hok, I.len⟩

theorem nodup_ix {N : List Str} (hN : N.Nodup) {i j : Nat} {x : Str} (a : N[i]? = some x) (b : N[j]? = some x) : i = j := by
  obtain ⟨h1, e1⟩ := List.getElem?_eq_some_iff.mp a
  obtain ⟨h2, e2⟩ := List.getElem?_eq_some_iff.mp b
  exact (List.getElem_inj hN).mp (e1.trans e2.symm)

/-- a name is stored; what changed -/
theorem store_ok2 {M : Model} {A : Around} {E : Value → Shared → Prop} {i : Nat} {x : Str} {v : V} {u : Value} {Q : Unit → Shared → Prop} (I : Inv X pins σ H s) (hN : X.N.Nodup) (hi : X.N[i]? = some x) (hx : Loc X.env.scope x) (r : RelV v u)
    (h : ∀ s', Inv X pins (σ.set i (some v)) H s' → (∃ a, Heap.SameBut a s.heap s'.heap ∧ (a = X.env.locals ∨ X.env.cells.lookup x = some a)) → Q () s') (hf : X.fn x = true ∨ X.env.scope.names.lookup x = some .local := by first | exact .inl rfl | exact .inr rfl | assumption) : wpAny M A (storeName X.env x u) Q E s := by
  obtain ⟨m, hn, hl⟩ := id I.loc
  have hcls : (X.env.scope.kind == .class || (X.env.scope.kind == .module && X.env.locals != X.env.globals)) = false := by rw [I.ok.kind]; rfl
  have hiσ : i < σ.length := by rw [I.len]; exact (List.getElem?_eq_some_iff.mp hi).1
  have cne := I.cne
  have tracked : ∀ {a : Addr} {h' : Heap}, (∃ o, s.heap.get? a = some o ∧ H a = none) → Heap.SameBut a s.heap h' → HOk X.prog X.w H h' := fun {a h'} ha hs b ob e => by
    obtain ⟨_, _, hfree⟩ := ha
    refine (I.hok b ob e).stay (fun c w' hc q => (hs.2 c ?_).trans q) (fun _ q => q) fun _ _ q => q
    rintro rfl
    rcases hc with rfl | hc
    · rw [hfree] at e; cases e
    · rw [hfree] at hc; cases hc
  rcases hx with hk | hk
  · refine wpAny_storeName_local hk hn (fun h' hn' hs => ?_) hcls
    obtain ⟨oL, _, _, hoL, _⟩ := id hn
    refine h _ ⟨I.ok, I.os, I.bare, ⟨fun b o e n hb hx => ?_, fun b o e n hb hx => ?_, I.base.free, fun b o e hx => ?_, I.base.tups, I.base.frzs, I.base.tbls⟩, ⟨_, hn', fun j y v' e1 e2 e3 => ?_⟩, fun y c e => ?_, I.free, I.freeC, fun p hp => ?_, tracked ⟨oL, hoL, I.free⟩ hs, by simpa using I.len⟩ ⟨_, hs, .inl rfl⟩
    · exact (hs.2 b (Nat.ne_of_lt (Nat.lt_of_lt_of_le (Heap.lt_size e) I.ok.above))).trans (I.base.keep b o e n hb hx)
    · obtain ⟨sl, e1⟩ := I.base.slot b o e n hb hx
      exact ⟨sl, (hs.2 b (Nat.ne_of_lt (Nat.lt_of_lt_of_le (Heap.lt_size e) I.ok.above))).trans e1⟩
    · obtain ⟨o', e1⟩ := I.base.there b o e hx
      exact ⟨o', (hs.2 b (Nat.ne_of_lt (Nat.lt_of_lt_of_le (Heap.lt_size e) I.ok.above))).trans e1⟩
    · by_cases hj : j = i
      · subst hj
        rw [hi] at e1; cases e1
        rw [List.getElem?_set_self hiσ] at e2
        cases e2
        exact ⟨u, r, .inl ⟨hk, by simp⟩⟩
      · rw [List.getElem?_set_ne (Ne.symm hj)] at e2
        obtain ⟨u', r', q⟩ := hl j y v' e1 e2 e3
        refine ⟨u', r', ?_⟩
        rcases q with ⟨k, e⟩ | ⟨k, c, e, z⟩
        · refine .inl ⟨k, ?_⟩
          have : y ≠ x := fun e => hj (nodup_ix hN e1 (e ▸ hi))
          simp [this, e]
        · exact .inr ⟨k, c, e, z.sameBut hs (cne y c e)⟩
    · obtain ⟨w', z⟩ := I.cell y c e
      exact ⟨w', z.sameBut hs (cne y c e)⟩
    · obtain ⟨e, n, ne, nf, d⟩ := I.pin p hp
      exact ⟨(hs.2 p.1 ne).trans e, n, ne, nf, d⟩
  · have hfn : X.fn x = true := by
      rcases hf with z | z
      · exact z
      · rw [z] at hk; cases hk
    obtain ⟨c, hc⟩ := I.ok.has x (.inl hk)
    obtain ⟨w', z⟩ := I.cell x c hc
    refine wpAny_storeName_cell I.ok.kind hk hc z (fun h' hc' hs => ?_)
    obtain ⟨oc, hoc, hocd⟩ := id z
    refine h { s with heap := h' } ⟨I.ok, I.os, I.bare, ⟨fun b o e n hb hx => ?_, fun b o e n hb hx => ?_, I.base.free, fun b o e hx => ?_, I.base.tups, I.base.frzs, I.base.tbls⟩, ⟨m, hn.sameBut hs (Ne.symm (cne x c hc)), fun j y v' e1 e2 e3 => ?_⟩, fun y c' e => ?_, I.free, I.freeC, fun p hp => ?_, tracked ⟨oc, hoc, I.freeC x c hc⟩ hs, by simpa using I.len⟩ ⟨c, hs, .inr hc⟩
    · exact (hs.2 b (Nat.ne_of_lt (Nat.lt_of_lt_of_le (Heap.lt_size e) (I.ok.cab x c hfn hc)))).trans (I.base.keep b o e n hb hx)
    · obtain ⟨sl, e1⟩ := I.base.slot b o e n hb hx
      exact ⟨sl, (hs.2 b (Nat.ne_of_lt (Nat.lt_of_lt_of_le (Heap.lt_size e) (I.ok.cab x c hfn hc)))).trans e1⟩
    · obtain ⟨o', e1⟩ := I.base.there b o e hx
      exact ⟨o', (hs.2 b (Nat.ne_of_lt (Nat.lt_of_lt_of_le (Heap.lt_size e) (I.ok.cab x c hfn hc)))).trans e1⟩
    · by_cases hj : j = i
      · subst hj
        rw [hi] at e1; cases e1
        rw [List.getElem?_set_self hiσ] at e2
        cases e2
        exact ⟨u, r, .inr ⟨.inl hk, c, hc, hc'⟩⟩
      · rw [List.getElem?_set_ne (Ne.symm hj)] at e2
        obtain ⟨u', r', q⟩ := hl j y v' e1 e2 e3
        refine ⟨u', r', ?_⟩
        rcases q with q | ⟨k, c', e, z'⟩
        · exact .inl q
        · refine .inr ⟨k, c', e, z'.sameBut hs ?_⟩
          rintro rfl
          exact hj (nodup_ix hN e1 (I.ok.inj _ _ _ e hc ▸ hi))
    · by_cases hcc : c' = c
      · subst hcc; exact ⟨_, hc'⟩
      · obtain ⟨w2, z2⟩ := I.cell y c' e
        exact ⟨w2, z2.sameBut hs hcc⟩
    · obtain ⟨e, n, ne, nf, d⟩ := I.pin p hp
      refine ⟨(hs.2 p.1 ?_).trans e, n, ne, nf, d⟩
      intro q
      rw [q, hoc] at e
      have q' : oc = p.2 := Option.some.inj e
      exact d w' (by rw [← q']; exact hocd)
theorem store_ok {M : Model} {A : Around} {E : Value → Shared → Prop} {i : Nat} {x : Str} {v : V} {u : Value} {Q : Unit → Shared → Prop} (I : Inv X pins σ H s) (hN : X.N.Nodup) (hi : X.N[i]? = some x) (hx : Loc X.env.scope x) (r : RelV v u)
    (h : ∀ s', Inv X pins (σ.set i (some v)) H s' → Q () s') (hf : X.fn x = true ∨ X.env.scope.names.lookup x = some .local := by first | exact .inl rfl | exact .inr rfl | assumption) : wpAny M A (storeName X.env x u) Q E s :=
  store_ok2 I hN hi hx r (fun s' I' _ => h s' I') hf
/-- behind a call or a block, the state as it is -/
theorem Inv.call' {s' : Shared} {ch : List Addr} (I : Inv X pins σ H s) (ho : s'.os = s.os) (u : Un (frs X.stack) ch H H' s.heap s'.heap) (hok : HOk X.prog X.w H' s'.heap) (hg : AllBare s'.gens)
    (hch : ∀ b ∈ ch, (b ∈ X.ex ∨ X.s₀.heap.objs.size ≤ b) ∧ b ≠ X.env.locals ∧ (∀ x c, X.env.cells.lookup x = some c → c ≠ b) ∧ ∀ p ∈ X.pn ++ pins, p.1 ≠ b) : Inv X pins σ H' s' := by
  obtain ⟨h', g', d', t', o'⟩ := s'
  have e : o' = s.os := ho
  subst e
  exact I.call (g' := g') (t' := t') (d' := d') u hok hg hch
end

/-! ### the judgements -/
/-- an exception: its class, its own dict's address (where it has one), the abstract heap behind it -/
abbrev XK := Value → Option Addr → Hp → Prop
abbrev St := List (Option V)
abbrev VK := V → Hp → Prop
/-- an expression's reading; a test's; an argument list's -/
abbrev TE := St → Hp → VK → Prop
abbrev TT := St → Hp → (Bool → Hp → Prop) → Prop
abbrev TA := St → Hp → (List V → Hp → Prop) → Prop
/-- what is wanted behind a statement -/
structure Ends where
  nx : St → Hp → Prop
  rt : VK
  bk : St → Hp → Prop := fun _ _ => False
  ct : St → Hp → Prop := fun _ _ => False
abbrev TS := Ends → St → Hp → Prop

def EP (X : Cx) (pins : List (Addr × Obj)) (σ : St) (Q : VK) (u : Value) (s' : Shared) : Prop := ∃ v H', Inv X pins σ H' s' ∧ RelV v u ∧ Q v H'
def TP (X : Cx) (pins : List (Addr × Obj)) (σ : St) (Q : Bool → Hp → Prop) (b : Bool) (s' : Shared) : Prop := ∃ H', Inv X pins σ H' s' ∧ Q b H'
def AP (X : Cx) (pins : List (Addr × Obj)) (σ : St) (Q : List V → Hp → Prop) (us : List Value) (s' : Shared) : Prop := ∃ vs H', Inv X pins σ H' s' ∧ Vals vs us ∧ Q vs H'
def SP (X : Cx) (pins : List (Addr × Obj)) (D : Ends) (f : Flow) (s' : Shared) : Prop :=
  match f with
  | .next => ∃ σ' H', Inv X pins σ' H' s' ∧ D.nx σ' H'
  | .brk => ∃ σ' H', Inv X pins σ' H' s' ∧ D.bk σ' H'
  | .cont => ∃ σ' H', Inv X pins σ' H' s' ∧ D.ct σ' H'
  | .ret u => ∃ v σ' H', Inv X pins σ' H' s' ∧ RelV v u ∧ D.rt v H'

def PE (X : Cx) (e : Expr) (t : TE) : Prop :=
  ∀ (pins : List (Addr × Obj)) (s : Shared) (σ : St) (H : Hp) (Q : VK), Inv X pins σ H s → t σ H Q → wpAny (model X.prog X.w) X.A (eval e X.env) (EP X pins σ Q) X.xe s
def PT (X : Cx) (e : Expr) (t : TT) : Prop :=
  ∀ (pins : List (Addr × Obj)) (s : Shared) (σ : St) (H : Hp) (Q : Bool → Hp → Prop), Inv X pins σ H s → t σ H Q → wpAny (model X.prog X.w) X.A (isTrue e X.env (eval e X.env)) (TP X pins σ Q) X.xe s
/-- a test whatever its 'whole' is (and, or) -/
def PW (X : Cx) (e : Expr) (t : TT) : Prop :=
  ∀ (whole : Sem Value) (pins : List (Addr × Obj)) (s : Shared) (σ : St) (H : Hp) (Q : Bool → Hp → Prop), Inv X pins σ H s → t σ H Q → wpAny (model X.prog X.w) X.A (isTrue e X.env whole) (TP X pins σ Q) X.xe s
theorem PW.pt {X : Cx} {e : Expr} {t : TT} (h : PW X e t) : PT X e t := h _
/-- an argument list (no star), from the left -/
def PA (X : Cx) (es : List Expr) (t : TA) : Prop :=
  ∀ (pos : Pos) (pins : List (Addr × Obj)) (s : Shared) (σ : St) (H : Hp) (Q : List V → Hp → Prop), Inv X pins σ H s → t σ H Q → wpAny (model X.prog X.w) X.A (spliced (backTo pos (starEach es X.env))) (AP X pins σ Q) X.xe s
def PS (X : Cx) (st : Stmt) (t : TS) : Prop :=
  ∀ (pins : List (Addr × Obj)) (s : Shared) (σ : St) (H : Hp) (D : Ends), Inv X pins σ H s → t D σ H → wpAny (model X.prog X.w) X.A (exec st X.env) (SP X pins D) X.xe s
def PSs (X : Cx) (st : List Stmt) (t : TS) : Prop :=
  ∀ (pins : List (Addr × Obj)) (s : Shared) (σ : St) (H : Hp) (D : Ends), Inv X pins σ H s → t D σ H → wpAny (model X.prog X.w) X.A (execs st X.env) (SP X pins D) X.xe s
/-- weaken the end -/
theorem thn {α : Type} {t : Sem α} {Q Q' : α → Shared → Prop} {M : Model} {A : Around} {E : Value → Shared → Prop} {s : Shared} (h : wpAny M A t Q E s) (hQ : ∀ a s, Q a s → Q' a s) : wpAny M A t Q' E s := wpAny_mono h hQ fun _ _ x => x
end L2

namespace L2
open PySem PySem.Spec PyProof.Rows
section
variable {X : Cx}

/-! ### names and constants -/
def tVar (i : Nat) : TE := fun σ H Q => ∃ v, σ[i]? = some (some v) ∧ Q v H
def tC (v : V) : TE := fun _ H Q => Q v H
theorem pe_var {i : Nat} {x : Str} {pos : Pos} (hN : X.N[i]? = some x) (hv : Vis X.env.scope x) (hd : (x == ("__debug__" : Str)) = false := by decide) (hcd : (x == ("__classdict__" : Str)) = false := by decide) : PE X (.Name x pos) (tVar i) := by
  intro pins s σ H Q I h
  obtain ⟨v, e, h⟩ := h
  obtain ⟨m, hn, hl⟩ := I.loc
  obtain ⟨u, r, l⟩ := hl i x v hN e hv
  have fin : EP X pins σ Q u s := ⟨v, H, I, r, h⟩
  rcases l with ⟨hk, hm⟩ | ⟨hk, c, hc, hcell⟩
  · exact wpAny_Name (wpAny_loadName_local I.ok.kind hk hn hm fin) hd
  · rcases hk with hk | hk
    · exact wpAny_Name (wpAny_loadName_cell I.ok.kind hk hc hcell fin) hd
    · exact wpAny_Name (wpAny_loadName_free I.ok.kind hk hc hcell fin hcd) hd
theorem pe_int {i j pos} : PE X (.Constant (.int i) j pos) (tC (.int i)) := fun _ _ _ H _ I h => wpAny_Constant_int ⟨.int i, H, I.tok _, ⟨_, rfl⟩, h⟩
theorem pe_bl {b j pos} : PE X (.Constant (.bool b) j pos) (tC (.bl b)) := fun _ _ _ H _ I h => Constant_bool ⟨.bl b, H, I, rfl, h⟩
theorem pe_non {j pos} : PE X (.Constant .none j pos) (tC .non) := fun _ _ _ H _ I h => Constant_none ⟨.non, H, I, rfl, h⟩
theorem pe_str {x j pos} : PE X (.Constant (.str x) j pos) (tC (.str x)) := fun _ _ _ H _ I h => Calls.Constant_str ⟨.str x, H, I.tok _, ⟨_, rfl⟩, h⟩

/-- a global name of the def -/
def Gl (X : Cx) (x : Str) : Prop := X.env.kindOf x = some .globalImplicit
theorem ld_glob {E : Value → Shared → Prop} {pins : List (Addr × Obj)} {s : Shared} {σ : St} {H : Hp} {x : Str} {u : Value} {pos : Pos} {Q : Value → Shared → Prop} (I : Inv X pins σ H s) (hg : Gl X x) (hm : X.mg x = some u) (h : Q u s)
    (hd : (x == ("__debug__" : Str)) = false := by decide) : wpAny (model X.prog X.w) X.A (eval (.Name x pos) X.env) Q E s :=
  Calls.Name_function_global I.ok.kind hg (Calls.loadGlobal_global (by rw [I.ok.glob]; exact I.mod.glob.keeps I.bk) hm h) hd
theorem ld_blt {E : Value → Shared → Prop} {pins : List (Addr × Obj)} {s : Shared} {σ : St} {H : Hp} {x : Str} {u : Value} {pos : Pos} {Q : Value → Shared → Prop} (I : Inv X pins σ H s) (hg : Gl X x) (hm : X.mg x = none) (hv : bootBuiltins x = some u) (h : Q u s)
    (hn : x ≠ "__name__" := by decide) (hd : (x == ("__debug__" : Str)) = false := by decide) : wpAny (model X.prog X.w) X.A (eval (.Name x pos) X.env) Q E s := by
  obtain ⟨mb, h1, h2⟩ := I.mod.blt
  exact Calls.Name_function_global I.ok.kind hg (Calls.loadGlobal_builtin (by rw [I.ok.glob]; exact I.mod.glob.keeps I.bk) hm (by rw [I.ok.blt]; exact h1.keeps I.bk) ((h2 x hn).trans hv) h) hd
/-- a module's constant, a class, a function, as a value -/
theorem pe_glob {x : Str} {v : V} {u : Value} {pos : Pos} (hg : Gl X x) (hm : X.mg x = some u) (r : RelV v u) (hd : (x == ("__debug__" : Str)) = false := by decide) : PE X (.Name x pos) (tC v) :=
  fun _ _ _ H _ I h => ld_glob I hg hm ⟨v, H, I, r, h⟩ hd
theorem pe_bltn {x : Str} {v : V} {u : Value} {pos : Pos} (hg : Gl X x) (hm : X.mg x = none) (hv : bootBuiltins x = some u) (r : RelV v u) (hn : x ≠ "__name__" := by decide) (hd : (x == ("__debug__" : Str)) = false := by decide) : PE X (.Name x pos) (tC v) :=
  fun _ _ _ H _ I h => ld_blt I hg hm hv ⟨v, H, I, r, h⟩ hn hd

/-! ### arithmetic -/
variable {a b : Expr} {ta tb : TE} {pos : Pos}
/-! ### comparisons -/
def PC (X : Cx) (op : CmpOp) (a b : Expr) (t : TE) : Prop :=
  ∀ (pins : List (Addr × Obj)) (s : Shared) (σ : St) (H : Hp) (Q : VK), Inv X pins σ H s → t σ H Q →
    wpAny (model X.prog X.w) X.A (eval a X.env) (fun v s₁ => wpAny (model X.prog X.w) X.A (eval b X.env) (fun u s₂ => wpAny (model X.prog X.w) X.A (compareOp op v u) (EP X pins σ Q) X.xe s₂) X.xe s₁) X.xe s
theorem nobehind (b : Expr) {op : CmpOp} (h : op ≠ .In) (h2 : op ≠ .NotIn) : behindInMarks op b = false := by
  have e1 : (op == CmpOp.In) = false := by cases op <;> first | rfl | exact absurd rfl h
  have e2 : (op == CmpOp.NotIn) = false := by cases op <;> first | rfl | exact absurd rfl h2
  cases b <;> simp [behindInMarks, e1, e2]
/-- is None -/
def tIsN (ta : TE) : TE := fun σ H Q => ta σ H fun x H1 => Q (.bl (decide (x = .non))) H1
theorem RelV.none_iff {x : V} {v : Value} (r : RelV x v) : (v == Value.none) = decide (x = .non) := by
  cases x with
  | non => cases r; rfl
  | bl _ => cases r; rfl
  | int _ => obtain ⟨t, rfl⟩ := r; rfl
  | str _ => obtain ⟨t, rfl⟩ := r; rfl
  | byt _ => obtain ⟨t, rfl⟩ := r; rfl
  | flt _ => obtain ⟨t, rfl⟩ := r; rfl
  | ref _ => cases r; rfl
  | ty _ => cases r; rfl
theorem pc_isN {j pos'} (ha : PE X a ta) : PC X .Is a (.Constant .none j pos') (tIsN ta) := by
  intro pins s σ H Q I h
  refine thn (ha pins s σ H _ I h) fun v s1 ⟨x, H1, I1, r1, q1⟩ => ?_
  exact Constant_none (is_none_gen ⟨.bl _, H1, I1, by rw [r1.none_iff]; rfl, q1⟩)
/-- a comparison as a value, as a test -/
def tB (t : TE) : TT := fun σ H Q => t σ H fun x H1 => ∃ c, x = .bl c ∧ Q c H1
theorem pt_cmp {op : CmpOp} {t : TE} (h : PC X op a b t) (h1 : behindInMarks op b = false := by first | exact nobehind _ (by decide) (by decide) | rfl) : PT X (.Compare a [op] [b] pos) (tB t) := by
  intro pins s σ H Q I hw
  refine wpAny_isTrue_Compare1 (thn (h pins s σ H _ I hw) fun v s1 h1 => thn h1 fun u s2 h2 => thn h2 fun c s3 ⟨x, H1, I1, r1, q1⟩ => ?_) h1
  obtain ⟨d, rfl, q⟩ := q1
  cases r1
  exact wpAny_truthy_bool ⟨H1, I1, q⟩
/-- an expression whose value is a bool, as a test -/
theorem pt_val {e : Expr} {t : TE} (h : PE X e t) (he : ∀ whole, isTrue e X.env whole = (do let v ← whole; standAt e.pos; holding [v] (truthy v)) := by intro _; rfl) : PT X e (tB t) := by
  intro pins s σ H Q I hw
  refine isTrue_plain (thn (h pins s σ H _ I hw) fun v s1 ⟨x, H1, I1, r1, q1⟩ => ?_) (he _)
  obtain ⟨d, rfl, q⟩ := q1
  cases r1
  exact wpAny_truthy_bool ⟨H1, I1, q⟩

/-! ### and, or, not -/
variable {tA tB' : TT} {rest : List Expr}
def tAnd (t u : TT) : TT := fun σ H Q => t σ H fun c H1 => if c = true then u σ H1 Q else Q false H1
def tOr (t u : TT) : TT := fun σ H Q => t σ H fun c H1 => if c = true then Q true H1 else u σ H1 Q
def tNot (t : TT) : TT := fun σ H Q => t σ H fun c H1 => Q (!c) H1
theorem pw_and1 (ha : PT X a tA) : PW X (.BoolOp .And [a] pos) tA := by
  intro wh pins s σ H Q I h
  refine isTrue_and (thn (ha pins s σ H Q I h) fun c s1 e => ?_)
  cases c with
  | true => exact isTrue_and_nil e
  | false => exact e
theorem pw_or1 (ha : PT X a tA) : PW X (.BoolOp .Or [a] pos) tA := by
  intro wh pins s σ H Q I h
  refine isTrue_or (thn (ha pins s σ H Q I h) fun c s1 e => ?_)
  cases c with
  | false => exact isTrue_or_nil e
  | true => exact e
theorem pw_and (ha : PT X a tA) (hb : PW X (.BoolOp .And (b :: rest) pos) tB') : PW X (.BoolOp .And (a :: b :: rest) pos) (tAnd tA tB') := by
  intro wh pins s σ H Q I h
  refine isTrue_and (thn (ha pins s σ H _ I h) fun c s1 ⟨H1, I1, q1⟩ => ?_)
  cases c with
  | true => exact hb wh pins s1 σ H1 Q I1 q1
  | false => exact ⟨H1, I1, q1⟩
theorem pw_or (ha : PT X a tA) (hb : PW X (.BoolOp .Or (b :: rest) pos) tB') : PW X (.BoolOp .Or (a :: b :: rest) pos) (tOr tA tB') := by
  intro wh pins s σ H Q I h
  refine isTrue_or (thn (ha pins s σ H _ I h) fun c s1 ⟨H1, I1, q1⟩ => ?_)
  cases c with
  | true => exact ⟨H1, I1, q1⟩
  | false => exact hb wh pins s1 σ H1 Q I1 q1
theorem pt_not (ha : PT X a tA) : PT X (.UnaryOp .Not a pos) (tNot tA) := by
  intro pins s σ H Q I h
  exact isTrue_not (ha pins s σ H (fun c H1 => Q (!c) H1) I h)
/-- .. as values (bools) -/
def tAndV (ta tb : TE) : TE := fun σ H Q => ta σ H fun x H1 => ∃ c, x = .bl c ∧ if c = true then tb σ H1 Q else Q (.bl false) H1
def tNotV (ta : TE) : TE := fun σ H Q => ta σ H fun x H1 => ∃ c, x = .bl c ∧ Q (.bl (!c)) H1
theorem pe_one {op} {t : TE} (h : PE X a t) : PE X (.BoolOp op [a] pos) t := fun pins s σ H Q I hw => BoolOp_one (h pins s σ H Q I hw)
theorem pe_and (ha : PE X a ta) (hb : PE X (.BoolOp .And (b :: rest) pos) tb) : PE X (.BoolOp .And (a :: b :: rest) pos) (tAndV ta tb) := by
  intro pins s σ H Q I h
  refine BoolOp_and (thn (ha pins s σ H _ I h) fun v s1 ⟨x, H1, I1, r1, q1⟩ => ?_)
  obtain ⟨c, rfl, q1⟩ := q1
  cases r1
  refine wpAny_truthy_bool ?_
  cases c with
  | true => exact hb pins s1 σ H1 Q I1 q1
  | false => exact ⟨.bl false, H1, I1, rfl, q1⟩
theorem pe_not (ha : PE X a ta) : PE X (.UnaryOp .Not a pos) (tNotV ta) := by
  intro pins s σ H Q I h
  refine UnaryOp_ (thn (ha pins s σ H _ I h) fun v s1 ⟨x, H1, I1, r1, q1⟩ => ?_)
  obtain ⟨c, rfl, q1⟩ := q1
  cases r1
  exact not_of (wpAny_truthy_bool ⟨.bl (!c), H1, I1, rfl, q1⟩)
/-- a if t else b -/
def tIf (t : TT) (ta tb : TE) : TE := fun σ H Q => t σ H fun c H1 => if c = true then ta σ H1 Q else tb σ H1 Q
theorem pe_ifExp {c : Expr} (hc : PT X c tA) (ha : PE X a ta) (hb : PE X b tb) : PE X (.IfExp c a b pos) (tIf tA ta tb) := by
  intro pins s σ H Q I h
  refine wpAny_IfExp (thn (hc pins s σ H _ I h) fun d s1 ⟨H1, I1, q1⟩ => ?_)
  cases d with
  | true => exact ha pins s1 σ H1 Q I1 q1
  | false => exact hb pins s1 σ H1 Q I1 q1
end
end L2

namespace L2
open PySem PySem.Spec PyProof.Rows

/-! ### a list, a tuple that is read: tracked, frozen, or an object of the module -/
def SqL (K : PySem.W.Frag) (H : Hp) (a : Addr) (xs : List V) : Prop :=
  Rd H a (.lst xs) ∨
    ∃ (o : Obj) (its : Array Value) (n : Nat), K.lookup a = some o ∧ o.cls = .type "list" ∧ o.dict = none ∧ o.data = .seq its n ∧ its.size ≤ sizeLine ∧ Vals xs its.toList
def SqT (K : PySem.W.Frag) (H : Hp) (a : Addr) (xs : List V) : Prop :=
  Rd H a (.tup xs) ∨
    ∃ (o : Obj) (its : Array Value) (n : Nat), K.lookup a = some o ∧ o.cls = .type "tuple" ∧ o.data = .seq its n ∧ its.size ≤ sizeLine ∧ Vals xs its.toList
def absV : Value → Option V
  | .none => some .non
  | .bool b => some (.bl b)
  | .int i _ => some (.int i)
  | .str x _ => some (.str x)
  | .bytes b _ => some (.byt b)
  | .float b _ => some (.flt b)
  | .ref a => some (.ref a)
  | .type n => some (.ty n)
  | _ => none
theorem RelV.abs {x : V} {u : Value} (r : RelV x u) : absV u = some x := by
  cases x with
  | non => cases r; rfl
  | bl _ => cases r; rfl
  | int _ => obtain ⟨t, rfl⟩ := r; rfl
  | str _ => obtain ⟨t, rfl⟩ := r; rfl
  | byt _ => obtain ⟨t, rfl⟩ := r; rfl
  | flt _ => obtain ⟨t, rfl⟩ := r; rfl
  | ref _ => cases r; rfl
  | ty _ => cases r; rfl
theorem RelV.inj {x y : V} {u : Value} (r : RelV x u) (q : RelV y u) : x = y := Option.some.inj (r.abs.symm.trans q.abs)
theorem Vals.inj : ∀ {xs ys : List V} {us : List Value}, Vals xs us → Vals ys us → xs = ys
  | _, _, _, .nil, .nil => rfl
  | _, _, _, .cons r t, .cons r' t' => by rw [r.inj r', Vals.inj t t']
section
variable {X : Cx} {pins : List (Addr × Obj)} {σ : St} {H : Hp} {s : Shared} {a : Addr} {xs ys : List V}
theorem SqL.of {K : PySem.W.Frag} (h : H a = some (.lst xs)) : SqL K H a xs := .inl (.inl h)
theorem SqT.of {K : PySem.W.Frag} (h : H a = some (.tup xs)) : SqT K H a xs := .inl (.inl h)
theorem Inv.list (I : Inv X pins σ H s) (h : SqL X.K H a xs) : ∃ its : List Value, Vals xs its ∧ PlainL s.heap a its.toArray ∧ xs.length ≤ sizeLine := by
  rcases h with h | ⟨o, its, n, hk, hc, hd, hs, hz, r⟩
  · obtain ⟨z, its, n, r, e⟩ := h.ok I.hok
    exact ⟨its, r, ⟨_, n, e, rfl, rfl, rfl⟩, z⟩
  · refine ⟨its.toList, r, ⟨o, n, I.kIn a o hk, hc, hd, by simpa using hs⟩, ?_⟩
    have e := r.length
    simp only [Array.length_toList] at e
    omega
theorem Inv.tuple (I : Inv X pins σ H s) (h : SqT X.K H a xs) : ∃ its : List Value, Vals xs its ∧ IsTup s.heap a its.toArray ∧ xs.length ≤ sizeLine := by
  rcases h with h | ⟨o, its, n, hk, hc, hs, hz, r⟩
  · obtain ⟨z, its, r, p⟩ := h.ok I.hok
    exact ⟨its, r, p.is, z⟩
  · refine ⟨its.toList, r, ⟨o, I.kIn a o hk, hc, n, by simpa using hs⟩, ?_⟩
    have e := r.length
    simp only [Array.length_toList] at e
    omega
theorem Inv.list_inj (I : Inv X pins σ H s) (h : SqL X.K H a xs) (h' : SqL X.K H a ys) : xs = ys := by
  obtain ⟨its, r, ⟨o, n, e, _, _, d⟩, _⟩ := I.list h
  obtain ⟨its', r', ⟨o', n', e', _, _, d'⟩, _⟩ := I.list h'
  rw [e] at e'; cases e'
  rw [d] at d'
  injection d' with d1 _
  have : its = its' := by simpa using congrArg Array.toList d1
  subst this
  exact r.inj r'
theorem Inv.tuple_inj (I : Inv X pins σ H s) (h : SqT X.K H a xs) (h' : SqT X.K H a ys) : xs = ys := by
  obtain ⟨its, r, ⟨o, e, _, n, d⟩, _⟩ := I.tuple h
  obtain ⟨its', r', ⟨o', e', _, n', d'⟩, _⟩ := I.tuple h'
  rw [e] at e'; cases e'
  rw [d] at d'
  injection d' with d1 _
  have : its = its' := by simpa using congrArg Array.toList d1
  subst this
  exact r.inj r'
end

/-! ### another wish about exceptions -/
abbrev Cx.wish (X : Cx) (E : Value → Shared → Prop) : Cx := { X with xe := E }
/-- no exception leaves -/
abbrev Cx.nox (X : Cx) : Cx := X.wish fun _ _ => False
theorem Cx.Ok.wish {X : Cx} (ok : X.Ok) (E : Value → Shared → Prop) : (X.wish E).Ok :=
  ⟨ok.mod, ok.kind, ok.glob, ok.blt, ok.above, ok.inj, ok.has, ok.cab, ok.hd, ok.frames, ok.stk, ok.exf, ok.bs, ok.bsz, ok.noex, ok.exfs, ok.funs, ok.frf⟩
theorem Cx.Ok.unwish {X : Cx} {E : Value → Shared → Prop} (ok : (X.wish E).Ok) : X.Ok :=
  ⟨ok.mod, ok.kind, ok.glob, ok.blt, ok.above, ok.inj, ok.has, ok.cab, ok.hd, ok.frames, ok.stk, ok.exf, ok.bs, ok.bsz, ok.noex, ok.exfs, ok.funs, ok.frf⟩
section
variable {X : Cx} {pins : List (Addr × Obj)} {σ : St} {H : Hp} {s : Shared} {E : Value → Shared → Prop}
theorem Inv.wish (I : Inv X pins σ H s) (E : Value → Shared → Prop) : Inv (X.wish E) pins σ H s := ⟨I.ok.wish E, I.os, I.bare, I.base, I.loc, I.cell, I.free, I.freeC, I.pin, I.hok, I.len⟩
theorem Inv.unwish (I : Inv (X.wish E) pins σ H s) : Inv X pins σ H s := ⟨I.ok.unwish, I.os, I.bare, I.base, I.loc, I.cell, I.free, I.freeC, I.pin, I.hok, I.len⟩
theorem SP.unwish {D : Ends} {f : Flow} {s' : Shared} (h : SP (X.wish E) pins D f s') : SP X pins D f s' := by
  cases f with
  | next => obtain ⟨σ', H', I, q⟩ := h; exact ⟨σ', H', I.unwish, q⟩
  | brk => obtain ⟨σ', H', I, q⟩ := h; exact ⟨σ', H', I.unwish, q⟩
  | cont => obtain ⟨σ', H', I, q⟩ := h; exact ⟨σ', H', I.unwish, q⟩
  | ret u => obtain ⟨v, σ', H', I, r, q⟩ := h; exact ⟨v, σ', H', I.unwish, r, q⟩
theorem PSs.nox {st : List Stmt} {t : TS} (h : PSs X.nox st t) : PSs X st t := fun pins s σ H D I hw =>
  wpAny_mono (h pins s σ H D (I.wish _) hw) (fun _ _ q => q.unwish) fun _ _ z => False.elim z
end

/-! ### blocks and small statements -/
section
variable {X : Cx} {st : Stmt} {rest : List Stmt} {t u : TS} {e : Expr} {te : TE} {pos : Pos}
def tNext : TS := fun D σ H => D.nx σ H
def tSeq (t u : TS) : TS := fun D σ H => t { D with nx := u D } σ H
theorem pss_nil : PSs X [] tNext := fun _ _ σ H _ I h => wpAny_execs_nil ⟨σ, H, I, h⟩
theorem pss_cons (h1 : PS X st t) (h2 : PSs X rest u) : PSs X (st :: rest) (tSeq t u) := by
  intro pins s σ H D I h
  refine wpAny_execs_cons (thn (h1 pins s σ H { D with nx := u D } I h) fun f s1 q => ?_)
  cases f with
  | next =>
    obtain ⟨σ', H', I', q⟩ := q
    exact h2 pins s1 σ' H' D I' q
  | ret v => exact q
  | brk => exact q
  | cont => exact q
theorem pss_one (h1 : PS X st t) : PSs X [st] t := by
  intro pins s σ H D I h
  refine wpAny_execs_cons (thn (h1 pins s σ H D I h) fun f s1 q => ?_)
  cases f with
  | next => exact wpAny_execs_nil q
  | ret v => exact q
  | brk => exact q
  | cont => exact q
/-- in a def's body nothing is shown -/
theorem Inv.quiet {pins : List (Addr × Obj)} {σ : St} {H : Hp} {s : Shared} (I : Inv X pins σ H s) : interactive X.env = false := by simp [interactive, I.ok.kind]
/-- an expression whose value is dropped -/
def tDrop (te : TE) : TS := fun D σ H => te σ H fun _ H1 => D.nx σ H1
theorem ps_expr (he : PE X e te) (hs : swapsWith e none pos.line X.env = pure false := by rfl) : PS X (.Expr e pos) (tDrop te) := by
  intro pins s σ H D I h
  exact wpAny_Expr_any (thn (he pins s σ H _ I h) fun v s1 ⟨x, H1, I1, r1, q1⟩ => ⟨σ, H1, I1, q1⟩) I.quiet hs
def tRet (te : TE) : TS := fun D σ H => te σ H D.rt
theorem ps_ret (he : PE X e te) : PS X (.Return (some e) pos) (tRet te) := by
  intro pins s σ H D I h
  exact wpAny_Return_some (thn (he pins s σ H _ I h) fun v s1 ⟨x, H1, I1, r1, q1⟩ => ⟨x, σ, H1, I1, r1, q1⟩)
def tIfS (c : TT) (t u : TS) : TS := fun D σ H => c σ H fun b H1 => if b = true then t D σ H1 else u D σ H1
theorem ps_if {c : Expr} {a b : List Stmt} {tc : TT} (hc : PT X c tc) (ha : PSs X a t) (hb : PSs X b u) : PS X (.If c a b pos) (tIfS tc t u) := by
  intro pins s σ H D I h
  refine wpAny_If (thn (hc pins s σ H _ I h) fun d s1 ⟨H1, I1, q1⟩ => ?_)
  cases d with
  | true => exact ha pins s1 σ H1 D I1 q1
  | false => exact hb pins s1 σ H1 D I1 q1
end

/-! ### targets -/
abbrev TG := V → St → Hp → (St → Hp → Prop) → Prop
abbrev TGs := List V → St → Hp → (St → Hp → Prop) → Prop
def PG (X : Cx) (target : Expr) (t : TG) : Prop :=
  ∀ (pins : List (Addr × Obj)) (s : Shared) (σ : St) (H : Hp) (v : V) (u : Value) (Q : St → Hp → Prop), Inv X pins σ H s → RelV v u → t v σ H Q →
    wpAny (model X.prog X.w) X.A (assign target X.env u) (fun _ s' => ∃ σ' H', Inv X pins σ' H' s' ∧ Q σ' H') X.xe s
/-- several targets, one after another -/
def PGs (X : Cx) (ts : List Expr) (t : TGs) : Prop :=
  ∀ (pins : List (Addr × Obj)) (s : Shared) (σ : St) (H : Hp) (vs : List V) (us : List Value) (Q : St → Hp → Prop), Inv X pins σ H s → Vals vs us → t vs σ H Q →
    wpAny (model X.prog X.w) X.A (assignInOrder ((assignEach ts X.env).map (·.2)) us) (fun _ s' => ∃ σ' H', Inv X pins σ' H' s' ∧ Q σ' H') X.xe s
/-- o[i] = v, by values -/
abbrev TSet := V → V → V → Hp → (Hp → Prop) → Prop
def PSet (X : Cx) (t : TSet) : Prop :=
  ∀ (pins : List (Addr × Obj)) (s : Shared) (σ : St) (H : Hp) (o i v : V) (ov iv u : Value) (Q : Hp → Prop), Inv X pins σ H s → RelV o ov → RelV i iv → RelV v u → t o i v H Q →
    wpAny (model X.prog X.w) X.A (setItem ov iv u) (fun _ s' => ∃ H', Inv X pins σ H' s' ∧ Q H') X.xe s
/-- a op= b, by values -/
abbrev TIp := V → V → Hp → VK → Prop
section
variable {X : Cx} {pos : Pos}
def gName (i : Nat) : TG := fun v σ H Q => Q (σ.set i (some v)) H
theorem pg_name {i : Nat} {x : Str} (hN : X.N.Nodup) (hi : X.N[i]? = some x) (hx : Loc X.env.scope x) (hf : X.fn x = true ∨ X.env.scope.names.lookup x = some .local := by first | exact .inl rfl | exact .inr rfl | assumption) : PG X (.Name x pos) (gName i) := by
  intro pins s σ H v u Q I r h
  exact wpAny_assign_Name (store_ok I hN hi hx r (fun s' I' => ⟨_, H, I', h⟩) hf)
def gNil : TGs := fun vs σ H Q => vs = [] ∧ Q σ H
def gCons (t : TG) (u : TGs) : TGs := fun vs σ H Q => ∃ v r, vs = v :: r ∧ t v σ H fun σ' H' => u r σ' H' Q
theorem pgs_nil : PGs X [] gNil := by
  intro pins s σ H vs us Q I r h
  obtain ⟨e, h⟩ := h
  subst e
  cases r
  exact assignInOrder_nil ⟨σ, H, I, h⟩
theorem pgs_cons {e : Expr} {es : List Expr} {t : TG} {u : TGs} (h1 : PG X e t) (h2 : PGs X es u)
    (hs : (assignEach (e :: es) X.env).map (·.2) = assign e X.env :: (assignEach es X.env).map (·.2) := by rfl) : PGs X (e :: es) (gCons t u) := by
  intro pins s σ H vs us Q I r h
  obtain ⟨v, vr, e1, h⟩ := h
  subst e1
  cases r with
  | cons r rr =>
    rw [hs]
    refine assignInOrder_cons (thn (h1 pins s σ H _ _ _ I r h) fun _ s1 ⟨σ1, H1, I1, q1⟩ => ?_)
    exact h2 pins s1 σ1 H1 _ _ Q I1 rr q1
/-- (a, b, ..) = a tuple of that length -/
def gTup (K : PySem.W.Frag) (n : Nat) (t : TGs) : TG := fun v σ H Q => ∃ a xs, v = .ref a ∧ SqT K H a xs ∧ xs.length = n ∧ t xs σ H Q
theorem pg_tup {es : List Expr} {k : Nat} {t : TGs} {n : Nat} (hc : X.calm = true) (h : PGs X es t)
    (hn : (assignEach es X.env).length = n := by rfl) (hst : (assignEach es X.env).findIdx? (·.1) = none := by rfl) : PG X (.Tuple es k pos) (gTup X.K n t) := by
  intro pins s σ H v u Q I r hw
  obtain ⟨a, xs, e1, hq, hl, hw⟩ := hw
  subst e1
  cases r
  obtain ⟨its, rv, ht, hz⟩ := I.tuple hq
  refine assign_Tuple_tuple (I.ok.hd hc) ht (by simp [hn, ← hl, rv.length]) hst fun h' hx => ?_
  have I1 : Inv X pins σ H { s with heap := h' } := I.kept (t' := s.toks) fun b o e => hx b o (Nat.ne_of_lt (Heap.lt_size e)) e
  exact h pins _ σ H xs _ Q I1 (by simpa using rv) hw
/-- o[i] = .. -/
def gSub (to ti : TE) (t : TSet) : TG := fun v σ H Q => to σ H fun o H1 => ti σ H1 fun i H2 => t o i v H2 fun H3 => Q σ H3
theorem pg_sub {o i : Expr} {to ti : TE} {t : TSet} (ho : PE X o to) (hi : PE X i ti) (hs : PSet X t)
    (ha : ∀ v, assign (.Subscript o i pos) X.env v = (do
      let ov ← holding [v] (eval o X.env)
      let iv ← holding [v, ov] (eval i X.env)
      standAt pos
      holding [v, ov, iv] (setItem ov iv v)
      release [v, ov, iv] []) := by intro _; rfl) : PG X (.Subscript o i pos) (gSub to ti t) := by
  intro pins s σ H v u Q I r h
  rw [ha]
  refine wpAny_bind (wpAny_holding (thn (ho pins s σ H _ I h) fun ov s1 ⟨x, H1, I1, r1, q1⟩ => ?_))
  refine wpAny_bind (wpAny_holding (thn (hi pins s1 σ H1 _ I1 q1) fun iv s2 ⟨y, H2, I2, r2, q2⟩ => ?_))
  refine wpAny_bind (wpAny_standAt (wpAny_bind (wpAny_holding (thn (hs pins s2 σ H2 x y v ov iv u _ I2 r1 r2 r q2) fun _ s3 ⟨H3, I3, q3⟩ => ?_))))
  exact wpAny_release ⟨σ, H3, I3, q3⟩
/-- target = value -/
def tAsg (te : TE) (g : TG) : TS := fun D σ H => te σ H fun x H1 => g x σ H1 D.nx
theorem ps_asg {tg e : Expr} {te : TE} {g : TG} (he : PE X e te) (hg : PG X tg g) (hs : swapsWithSole [tg] e pos.line X.env = pure false := by rfl) (hw : swappedStores [tg] e X.env = pure none := by rfl)
    (h1 : (assignEach [tg] X.env).map (·.2) = [assign tg X.env] := by rfl) : PS X (.Assign [tg] e pos) (tAsg te g) := by
  intro pins s σ H D I h
  refine wpAny_Assign_stores (thn (he pins s σ H _ I h) fun v s1 ⟨x, H1, I1, r1, q1⟩ => ?_) hs hw
  rw [h1]
  exact thn (hg pins s1 σ H1 x v _ I1 r1 q1) fun _ s2 q => q
/-- name = value -/
theorem ps_set {i : Nat} {x : Str} {e : Expr} {te : TE} {pos' : Pos} (hN : X.N.Nodup) (hi : X.N[i]? = some x) (hx : Loc X.env.scope x) (he : PE X e te) (hs : swapsWith e (some (.Name x pos')) pos.line X.env = pure false := by rfl) (hf : X.fn x = true ∨ X.env.scope.names.lookup x = some .local := by first | exact .inl rfl | exact .inr rfl | assumption) :
    PS X (.Assign [.Name x pos'] e pos) (tAsg te (gName i)) := by
  intro pins s σ H D I h
  refine wpAny_Assign_Name (thn (he pins s σ H _ I h) fun v s1 ⟨y, H1, I1, r1, q1⟩ => ?_) hs
  exact store_ok I1 hN hi hx r1 (fun s2 I2 => ⟨_, H1, I2, q1⟩) hf
/-- ints -/
def ipI (f : Int → Int → Int) : TIp := fun x y H Q => ∃ i j, x = .int i ∧ y = .int j ∧ Q (.int (f i j)) H
end

/-! ### while -/
section
variable {X : Cx} {pos : Pos}
/-- the invariant W with its measure -/
def tWhile (c : TT) (tb : TS) : TS := fun D σ H => ∃ W : Nat → St → Hp → Prop, (∃ m, W m σ H) ∧ ∀ m σ H, W m σ H →
  c σ H fun b H1 => if b = true then ∃ N : St → Hp → Prop, (∀ σ' H', N σ' H' → ∃ m', m' < m ∧ W m' σ' H') ∧ tb { D with nx := N, ct := N, bk := D.nx } σ H1 else D.nx σ H1
theorem ps_while {c : Expr} {body : List Stmt} {tc : TT} {tb : TS} (hp : PassesOwn (model X.prog X.w) X.A X.env X.xe) (hc : PT X c tc) (hb : PSs X body tb) : PS X (.While c body [] pos) (tWhile tc tb) := by
  intro pins s σ H D I h
  obtain ⟨W, ⟨m0, w0⟩, turn⟩ := h
  refine wpAny_While (codeAny_whileLoop (fun n s' => ∃ σ' H', Inv X pins σ' H' s' ∧ W n σ' H') ?_ m0 ⟨σ, H, I, w0⟩)
  rintro n s1 ⟨σ1, H1, I1, w1⟩
  refine wpAny_passesOwn hp (thn (hc pins s1 σ1 H1 _ I1 (turn n σ1 H1 w1)) fun b s2 ⟨H2, I2, q2⟩ => ?_)
  cases b with
  | true =>
    obtain ⟨N, hN, q2⟩ := q2
    rw [if_pos rfl]
    refine wpAny_passesOwn hp (thn (hb pins s2 σ1 H2 _ I2 q2) fun f s3 q3 => ?_)
    cases f with
    | next =>
      obtain ⟨σ3, H3, I3, n3⟩ := q3
      obtain ⟨m', hm, w3⟩ := hN σ3 H3 n3
      exact ⟨m', hm, σ3, H3, I3, w3⟩
    | cont =>
      obtain ⟨σ3, H3, I3, n3⟩ := q3
      obtain ⟨m', hm, w3⟩ := hN σ3 H3 n3
      exact ⟨m', hm, σ3, H3, I3, w3⟩
    | brk => exact q3
    | ret v => exact q3
  | false =>
    rw [if_neg Bool.false_ne_true]
    exact wpAny_execs_nil ⟨σ1, H2, I2, q2⟩
end

/-! ### what a loop or a comprehension walks -/
/-- at turn i: it yields x (the heap may grow), or it stops -/
structure It where
  go : Nat → Hp → Prop
  yld : Nat → Hp → V → Hp → Prop
  stop : Nat → Hp → Prop
/-- the iterator's own objects may turn: they are not the frame's, not pinned, younger than the entry (or a comprehension's own) -/
def FpOk (X : Cx) (pins : List (Addr × Obj)) (H : Hp) (b : Addr) : Prop :=
  H b = none ∧ b ≠ X.env.locals ∧ b ∉ X.fs ∧ (b ∈ X.ex ∨ X.s₀.heap.objs.size ≤ b) ∧ (∀ x c, X.env.cells.lookup x = some c → c ≠ b) ∧ ∀ p ∈ X.pn ++ pins, p.1 ≠ b
theorem Inv.fpOk {X : Cx} {pins : List (Addr × Obj)} {σ : St} {H H' : Hp} {s : Shared} {b : Addr} (I : Inv X pins σ H s) (hb : s.heap.objs.size ≤ b) (hn : H' b = none) : FpOk X pins H' b := by
  refine ⟨hn, Nat.ne_of_gt (Nat.lt_of_lt_of_le I.lt hb), I.nofs hb, .inr (Nat.le_trans I.sz hb), fun x c e z => ?_, fun p hp z => ?_⟩
  · obtain ⟨v, q⟩ := I.cell x c e
    exact absurd (Nat.lt_of_lt_of_le q.lt (by rw [z]; exact hb)) (Nat.lt_irrefl _)
  · exact absurd (Nat.lt_of_lt_of_le (Heap.lt_size (I.pin p hp).1) (by rw [z]; exact hb)) (Nat.lt_irrefl _)
structure Turn (P : Program) (w : World) (K : PySem.W.Frag) (tg : Expr) (J : It) (fp : List Addr) (it : Addr) (tn : Nat → Heap → Prop) : Prop where
  mem : it ∈ fp
  obj : ∀ i h, tn i h → ∀ b ∈ fp, ∃ o, h.get? b = some o ∧ ∀ v, o.data ≠ .cell v
  keep : ∀ i h h', tn i h → (∀ b ∈ fp, ∀ o, h.get? b = some o → h'.get? b = some o) → tn i h'
  item : ∀ (X : Cx), X.prog = P → X.w = w → X.K = K → X.calm = true → ∀ (i : Nat) (pins : List (Addr × Obj)) (s : Shared) (σ : St) (H : Hp) (E : Value → Shared → Prop), Inv X pins σ H s → (∀ b ∈ fp, FpOk X pins H b) → tn i s.heap → J.go i H →
    wpAny (model P w) X.A (pyNext (.ref it)) (fun r s1 => ∃ u, r = some u ∧
      wpAny (model P w) X.A (letOwnedTupleGo tg (.ref it) u) (fun _ s2 => ∃ x H', Inv X pins σ H' s2 ∧ RelV x u ∧ J.yld i H x H' ∧ tn (i + 1) s2.heap ∧ ∀ b ∈ fp, H' b = none) E s1) E s
  done : ∀ (X : Cx), X.prog = P → X.w = w → X.K = K → X.calm = true → ∀ (i : Nat) (pins : List (Addr × Obj)) (s : Shared) (σ : St) (H : Hp) (E : Value → Shared → Prop), Inv X pins σ H s → (∀ b ∈ fp, FpOk X pins H b) → tn i s.heap → J.stop i H →
    wpAny (model P w) X.A (pyNext (.ref it)) (fun r s1 => r = none ∧ Inv X pins σ H s1) E s
  self : ∀ (A : Around) (i : Nat) (s : Shared) (Q : Value → Shared → Prop) (E : Value → Shared → Prop), tn i s.heap → Q (.ref it) s → wpAny (model P w) A (pyIter (.ref it)) Q E s
abbrev TI := St → Hp → (It → Hp → Prop) → Prop
/-- an iterator has come -/
def PIE (X : Cx) (pins : List (Addr × Obj)) (σ : St) (tg : Expr) (R : It → Hp → Prop) (itv : Value) (s2 : Shared) : Prop :=
  ∃ (it : Addr) (fp : List Addr) (tn : Nat → Heap → Prop) (J : It) (H' : Hp), itv = .ref it ∧ Inv X pins σ H' s2 ∧ Turn X.prog X.w X.K tg J fp it tn ∧ tn 0 s2.heap ∧ (∀ b ∈ fp, FpOk X pins H' b) ∧ R J H'
def PI (X : Cx) (tg iter : Expr) (wi : TI) : Prop :=
  ∀ (pins : List (Addr × Obj)) (s : Shared) (σ : St) (H : Hp) (R : It → Hp → Prop), Inv X pins σ H s → wi σ H R →
    wpAny (model X.prog X.w) X.A (eval iter X.env) (fun v s1 => wpAny (model X.prog X.w) X.A (pyIter v) (PIE X pins σ tg R) X.xe s1) X.xe s

/-- the step ahead of the store is nothing for an iterator that keeps no tuple -/
theorem go_of {M : Model} {A : Around} {E : Value → Shared → Prop} {s : Shared} {tg : Expr} {it : Addr} {u : Value} {o : Obj} {n : String} {vs : Array Value} {Q : Unit → Shared → Prop} (ho : s.heap.get? it = some o) (hc : o.cls = .type n) (hd : o.data = .fields vs)
    (hn : ["enumerate", "zip", "dict_itemiterator", "dict_reverseitemiterator", "odict_iterator", "itertools.zip_longest", "itertools.pairwise"].contains n = false) (hQ : Q () s) : wpAny M A (letOwnedTupleGo tg (.ref it) u) Q E s := by
  unfold letOwnedTupleGo
  cases tg <;> first
    | exact wpAny_pure hQ
    | (cases u <;> first
        | exact wpAny_pure hQ
        | (refine wpAny_bind (wpAny_load ho ?_)
           rw [hc, hd]
           show wpAny M A (if (["enumerate", "zip", "dict_itemiterator", "dict_reverseitemiterator", "odict_iterator", "itertools.zip_longest", "itertools.pairwise"].contains n && vs[0]? == some (rawInt _)) = true then _ else _) Q E s
           rw [if_neg (by intro h; rw [hn, Bool.false_and] at h; cases h)]
           exact wpAny_pure hQ))

/-- the list at a, as it stands at each turn (a loop may append to it) -/
def Itl (K : PySem.W.Frag) (a : Addr) : It :=
  ⟨fun i H => ∃ xs x, SqL K H a xs ∧ xs[i]? = some x, fun i H x H' => H' = H ∧ ∀ xs, SqL K H a xs → xs[i]? = some x, fun i H => ∃ xs, SqL K H a xs ∧ xs.length ≤ i⟩
/-- lo, lo + 1, .. (n of them) -/
def Itr (lo : Int) (n : Nat) : It := ⟨fun i _ => i < n, fun i H x H' => H' = H ∧ x = .int (lo + i), fun i _ => n ≤ i⟩
theorem turn_list {P : Program} {w : World} {K : PySem.W.Frag} {tg : Expr} (a it : Addr) : Turn P w K tg (Itl K a) [it] it (fun i h => h.IsListIter it a i) where
  mem := by simp
  obj := fun i h st b hb => by
    have e : b = it := by simpa using hb
    subst e
    obtain ⟨o, e, c, d⟩ := st
    exact ⟨o, e, fun v z => by rw [d] at z; cases z⟩
  keep := fun i h h' st k => st.at fun o e => k it (by simp) o e
  item := by
    intro X hP hw hK hc i pins s σ H E I hf st hg
    subst hP hw hK
    obtain ⟨xs, x, hq, hx⟩ := hg
    obtain ⟨its, rv, p, hz⟩ := I.list hq
    obtain ⟨u, hu, ru⟩ := rv.get hx
    obtain ⟨f0, f1, f2, f3, f4, f5⟩ := hf it (by simp)
    refine wpAny_pyNext_list_item st p.isList (x := u) (by simpa using hu) fun h' st' sb => ?_
    have I1 : Inv X pins σ H { s with heap := h' } := I.turned (t' := s.toks) (fun b o hb e => (sb.2 b hb).trans e) f0 f1 f3 f4 f5
    obtain ⟨o, e, c, d⟩ := id st'
    exact ⟨u, rfl, go_of (s := { s with heap := h' }) e c d (by decide) ⟨x, H, I1, ru, ⟨rfl, fun ys hy => by rw [I.list_inj hy hq]; exact hx⟩, st', fun b hb => (hf b hb).1⟩⟩
  done := by
    intro X hP hw hK hc i pins s σ H E I hf st hg
    subst hP hw hK
    obtain ⟨xs, hq, hx⟩ := hg
    obtain ⟨its, rv, p, hz⟩ := I.list hq
    obtain ⟨f0, f1, f2, f3, f4, f5⟩ := hf it (by simp)
    have hl := rv.length
    exact wpAny_pyNext_list_end (I.ok.hd hc) st p.isList (by simp; omega) fun h' eb => ⟨rfl, I.turned (t' := s.toks) (fun b o hb e => eb b o hb e) f0 f1 f3 f4 f5⟩
  self := fun _ _ _ _ _ st h => wpAny_pyIter_listiter st h
theorem turn_range {P : Program} {w : World} {K : PySem.W.Frag} {tg : Expr} (it : Addr) (lo : Int) (n : Nat) : Turn P w K tg (Itr lo n) [it] it (fun i h => IsRangeIter h it (lo + (i : Nat) * 1) ((n : Int) - (i : Nat)) 1) where
  mem := by simp
  obj := fun i h st b hb => by
    have e : b = it := by simpa using hb
    subst e
    exact ⟨_, st, fun v z => by
      have z' : Data.fields _ = Data.cell v := z
      cases z'⟩
  keep := fun i h h' st k => k it (by simp) _ st
  item := by
    intro X hP hw hK hc i pins s σ H E I hf st hg
    subst hP hw hK
    obtain ⟨f0, f1, f2, f3, f4, f5⟩ := hf it (by simp)
    have W := Walks.range (prog := X.prog) (w := X.w) (I.ok.hd hc) it lo 1 n
    refine W.item i s _ _ hg st fun v h' tk hv st' kk => ?_
    obtain ⟨t, rfl⟩ := hv
    have I1 : Inv X pins σ H { s with heap := h', toks := tk } := I.turned (fun b o hb e => kk b o (by simpa using hb) e) f0 f1 f3 f4 f5
    refine ⟨_, rfl, go_of (s := { s with heap := h', toks := tk }) (n := "range_iterator") st' rfl rfl (by decide) ⟨.int (lo + i), H, I1, ⟨t, ?_⟩, ⟨rfl, rfl⟩, st', fun b hb => (hf b hb).1⟩⟩
    rw [Int.mul_one]
  done := by
    intro X hP hw hK hc i pins s σ H E I hf st hg
    subst hP hw hK
    obtain ⟨f0, f1, f2, f3, f4, f5⟩ := hf it (by simp)
    exact wpAny_pyNext_range_end (I.ok.hd hc) st (by have : n ≤ i := hg; omega) fun h' eb => ⟨rfl, I.turned (t' := s.toks) (fun b o hb e => eb b o hb e) f0 f1 f3 f4 f5⟩
  self := fun _ _ _ _ _ st h => wpAny_pyIter_rangeiter st h
end L2

namespace L2
open PySem PySem.Spec PyProof.Rows
section
variable {X : Cx} {tg : Expr}
def iList (K : PySem.W.Frag) (tl : TE) : TI := fun σ H R => tl σ H fun x H1 => ∃ a, x = .ref a ∧ (∃ xs, SqL K H1 a xs) ∧ R (Itl K a) H1
theorem pi_list {l : Expr} {tl : TE} (hl : PE X l tl) : PI X tg l (iList X.K tl) := by
  intro pins s σ H R I h
  refine thn (hl pins s σ H _ I h) fun v s1 ⟨x, H1, I1, r1, q1⟩ => ?_
  obtain ⟨a, e, ⟨xs, hq⟩, q⟩ := q1
  subst e
  cases r1
  obtain ⟨its, rv, p, hz⟩ := I1.list hq
  refine wpAny_pyIter_list p.isList ?_
  refine ⟨s1.heap.objs.size, [s1.heap.objs.size], _, _, H1, rfl, I1.kept (t' := s1.toks) fun b o e => Heap.get?_push_of_some _ e, turn_list a _, ⟨_, Heap.get?_push_size _ rfl, rfl, rfl⟩, fun b hb => ?_, q⟩
  have e : b = s1.heap.objs.size := by simpa using hb
  subst e
  exact I1.fpOk (Nat.le_refl _) (I1.hok.fresh (Nat.le_refl _))
/-- a range object just made, walked -/
theorem range_it {pins : List (Addr × Obj)} {σ : St} {H : Hp} {s : Shared} {R : It → Hp → Prop} {E : Value → Shared → Prop} {lo hi : Int} {t u v : Tok} {tk : Nat} (I : Inv X pins σ H s) (h1 : -(2 ^ 62) ≤ lo) (h2 : lo < 2 ^ 62) (h3 : -(2 ^ 62) ≤ hi) (h4 : hi < 2 ^ 62)
    (q : R (Itr lo (hi - lo).toNat) H) : wpAny (model X.prog X.w) X.A (pyIter (.ref s.heap.objs.size)) (PIE X pins σ tg R) E { s with heap := s.heap.push { cls := .type "range", data := .fields #[.int lo t, .int hi u, .int 1 v] }, toks := tk } := by
  refine wpAny_pyIter_range (IsRange.new ..) (small_one h1 h2 h3 h4) ?_
  have I1 : Inv X pins σ H { s with heap := s.heap.push { cls := .type "range", data := .fields #[.int lo t, .int hi u, .int 1 v] }, toks := tk } := I.kept fun b o e => Heap.get?_push_of_some _ e
  refine ⟨(s.heap.push { cls := .type "range", data := .fields #[.int lo t, .int hi u, .int 1 v] }).objs.size, [(s.heap.push { cls := .type "range", data := .fields #[.int lo t, .int hi u, .int 1 v] }).objs.size], _, _, H, rfl,
    I1.kept (t' := tk) fun b o e => Heap.get?_push_of_some _ e, turn_range _ lo (hi - lo).toNat, ?_, fun b hb => ?_, q⟩
  · have e1 : lo + ((0 : Nat) : Int) * 1 = lo := by simp
    have e2 : (((hi - lo).toNat : Nat) : Int) - ((0 : Nat) : Int) = Builtin.Range.rangeSize lo hi 1 := by rw [rangeSize_one]; split <;> omega
    show IsRangeIter _ _ (lo + ((0 : Nat) : Int) * 1) ((((hi - lo).toNat : Nat) : Int) - ((0 : Nat) : Int)) 1
    rw [e1, e2]
    exact Heap.get?_push_size _ rfl
  · have e : b = (s.heap.push { cls := .type "range", data := .fields #[.int lo t, .int hi u, .int 1 v] }).objs.size := by simpa using hb
    subst e
    exact I1.fpOk (Nat.le_refl _) (I1.hok.fresh (Nat.le_refl _))
def iRng1 (ta : TA) : TI := fun σ H R => ta σ H fun vs H1 => ∃ j : Int, vs = [.int j] ∧ -(2 ^ 62) ≤ j ∧ j < 2 ^ 62 ∧ R (Itr 0 j.toNat) H1
theorem pi_range1 {a : Expr} {ta : TA} {p pos : Pos} (hg : Gl X "range") (hm : X.mg "range" = none) (ha : PA X [a] ta) (hs : starEach [a] X.env = [(false, eval a X.env)] := by rfl) : PI X tg (.Call (.Name "range" p) [a] [] pos) (iRng1 ta) := by
  intro pins s σ H R I h
  refine Call_ (ld_blt I hg hm boot_range (PyProof.Rows.callWith_type1 (thn (ha pos pins s σ H _ I h) fun us s1 ⟨vs, H1, I1, r1, q1⟩ => ?_) hs rfl))
  obtain ⟨j, e, q1, q2, q⟩ := q1
  subst e
  cases r1 with
  | cons r rr =>
    cases rr
    obtain ⟨t, rfl⟩ := r
    exact call_range_1 (range_it I1 (by omega) (by omega) q1 q2 (by simpa using q))
/-! ### for -/
/-- W: the invariant by the turn and a measure; N: what the body is to reach -/
def tFor (wi : TI) (g : TG) (tb : TS) : TS := fun D σ H => wi σ H fun J H1 => ∃ W : Nat → Nat → St → Hp → Prop, (∃ m, W 0 m σ H1) ∧ ∀ i m σ H, W i m σ H →
  (J.stop i H ∧ D.nx σ H) ∨ (J.go i H ∧ ∃ N : St → Hp → Prop, (∀ σ' H', N σ' H' → ∃ m', m' < m ∧ W (i + 1) m' σ' H') ∧ ∀ x H', J.yld i H x H' → g x σ H' fun σ2 H2 => tb { D with nx := N, ct := N, bk := D.nx } σ2 H2)
/-- the records at fp as they stand -/
def pinsAt (fp : List Addr) (h : Heap) : List (Addr × Obj) := fp.filterMap fun b => (h.get? b).map fun o => (b, o)
theorem mem_pinsAt {fp : List Addr} {h : Heap} {b : Addr} {o : Obj} (hb : b ∈ fp) (e : h.get? b = some o) : (b, o) ∈ pinsAt fp h := List.mem_filterMap.mpr ⟨b, hb, by rw [e]; rfl⟩
theorem of_pinsAt {fp : List Addr} {h : Heap} {p : Addr × Obj} (hp : p ∈ pinsAt fp h) : p.1 ∈ fp ∧ h.get? p.1 = some p.2 := by
  obtain ⟨b, hb, e⟩ := List.mem_filterMap.mp hp
  cases q : h.get? b with
  | none => rw [q] at e; cases e
  | some o =>
    rw [q] at e
    have e' : (b, o) = p := Option.some.inj e
    subst e'
    exact ⟨hb, q⟩
theorem Inv.pinned {pins : List (Addr × Obj)} {σ : St} {H : Hp} {s : Shared} {fp : List Addr} (I : Inv X pins σ H s) (hf : ∀ b ∈ fp, FpOk X pins H b) (ho : ∀ b ∈ fp, ∃ o, s.heap.get? b = some o ∧ ∀ v, o.data ≠ .cell v) : Inv X (pins ++ pinsAt fp s.heap) σ H s :=
  I.pins_of fun p hp => (List.mem_append.mp hp).elim (fun z => I.pin p (List.mem_append_right _ z)) fun z => by
    obtain ⟨hb, e⟩ := of_pinsAt z
    obtain ⟨f0, f1, f2, _⟩ := hf p.1 hb
    obtain ⟨o, e', d⟩ := ho p.1 hb
    rw [e] at e'; cases e'
    exact ⟨e, f0, f1, f2, d⟩
theorem Inv.unpinned {pins pl : List (Addr × Obj)} {σ : St} {H : Hp} {s : Shared} (I : Inv X (pins ++ pl) σ H s) : Inv X pins σ H s := I.pins_of fun p hp => I.pin p (List.mem_append_right _ (List.mem_append_left _ hp))
theorem ps_for {iter : Expr} {body : List Stmt} {wi : TI} {g : TG} {tb : TS} {pos : Pos} (hp : PassesOwn (model X.prog X.w) X.A X.env X.xe) (hc : X.calm = true) (hi : PI X tg iter wi) (hg : PG X tg g) (hb : PSs X body tb)
    (hs : ∀ x, foldedSetIterable iter X.env x = pure x := by intro _; rfl) : PS X (.For tg iter body [] pos) (tFor wi g tb) := by
  intro pins s σ H D I h
  refine wpAny_For (thn (hi pins s σ H _ I h) fun v s1 h1 => thn h1 fun itv s2 h2 => ?_) hs
  obtain ⟨it, fp, tn, J, H2, e, I2, T, st2, f2, W, ⟨m0, w0⟩, turn⟩ := h2
  subst e
  -- what stays true of the iterator's objects through the loop
  have stat : ∀ {H' : Hp}, (∀ b ∈ fp, H' b = none) → ∀ b ∈ fp, FpOk X pins H' b := fun hn b hb => ⟨hn b hb, (f2 b hb).2⟩
  refine codeAny_forLoop_any (fun n s' => ∃ i σ' H', Inv X pins σ' H' s' ∧ tn i s'.heap ∧ (∀ b ∈ fp, H' b = none) ∧ W i n σ' H') ?_ m0 ⟨0, σ, H2, I2, st2, fun b hb => (f2 b hb).1, w0⟩
  rintro n s3 ⟨i, σ3, H3, I3, st3, fr3, w3⟩
  rcases turn i n σ3 H3 w3 with ⟨stop, qn⟩ | ⟨go, N, hN, step⟩
  · refine wpAny_passesOwn hp (thn (T.done X rfl rfl rfl hc i pins s3 σ3 H3 X.xe I3 (stat fr3) st3 stop) fun r s4 ⟨hr, I4⟩ => ?_)
    subst hr
    exact wpAny_execs_nil ⟨σ3, H3, I4, qn⟩
  · refine wpAny_passesOwn hp (thn (T.item X rfl rfl rfl hc i pins s3 σ3 H3 X.xe I3 (stat fr3) st3 go) fun r s4 ⟨u, hr, h4⟩ => ?_)
    subst hr
    refine wpAny_passesOwn hp (thn h4 fun _ s5 ⟨x, H5, I5, r5, y5, st5, fr5⟩ => ?_)
    have I5' := I5.pinned (stat fr5) (T.obj _ _ st5)
    refine wpAny_passesOwn hp (thn (hg _ s5 σ3 H5 x u _ I5' r5 (step x H5 y5)) fun _ s6 ⟨σ6, H6, I6, q6⟩ => ?_)
    refine wpAny_passesOwn hp (thn (hb _ s6 σ6 H6 _ I6 q6) fun f s7 q7 => ?_)
    have again : ∀ {σ7 : St} {H7 : Hp}, Inv X (pins ++ pinsAt fp s5.heap) σ7 H7 s7 → N σ7 H7 → ∃ m, m < n ∧ ∃ i σ' H', Inv X pins σ' H' s7 ∧ tn i s7.heap ∧ (∀ b ∈ fp, H' b = none) ∧ W i m σ' H' := fun {σ7 H7} I7 n7 => by
      obtain ⟨m', hm, w7⟩ := hN σ7 H7 n7
      refine ⟨m', hm, i + 1, σ7, H7, I7.unpinned, T.keep _ _ _ st5 fun b hb o e => (I7.pin (b, o) (List.mem_append_right _ (List.mem_append_right _ (mem_pinsAt hb e)))).1, fun b hb => ?_, w7⟩
      obtain ⟨o, e, d⟩ := T.obj _ _ st5 b hb
      exact (I7.pin (b, o) (List.mem_append_right _ (List.mem_append_right _ (mem_pinsAt hb e)))).2.1
    cases f with
    | next => obtain ⟨σ7, H7, I7, n7⟩ := q7; exact again I7 n7
    | cont => obtain ⟨σ7, H7, I7, n7⟩ := q7; exact again I7 n7
    | brk => obtain ⟨σ7, H7, I7, q7⟩ := q7; exact ⟨σ7, H7, I7.unpinned, q7⟩
    | ret v => obtain ⟨x7, σ7, H7, I7, r7, q7⟩ := q7; exact ⟨x7, σ7, H7, I7.unpinned, r7, q7⟩
end

/-! ### the forms one uses -/
/-- over a list that the body leaves as it is -/
theorem for_list {K : PySem.W.Frag} {a : Addr} {xs : List V} {g : TG} {tb : TS} {D : Ends} {σ : St} {H : Hp} (Pv : Nat → St → Hp → Prop) (h0 : Pv 0 σ H) (hl : ∀ i σ H, i ≤ xs.length → Pv i σ H → SqL K H a xs)
    (hs : ∀ i x σ H, xs[i]? = some x → Pv i σ H → g x σ H fun σ2 H2 => tb { D with nx := Pv (i + 1), ct := Pv (i + 1), bk := D.nx } σ2 H2) (hd : ∀ σ H, Pv xs.length σ H → D.nx σ H) :
    ∃ W : Nat → Nat → St → Hp → Prop, (∃ m, W 0 m σ H) ∧ ∀ i m σ H, W i m σ H →
      ((Itl K a).stop i H ∧ D.nx σ H) ∨ ((Itl K a).go i H ∧ ∃ N : St → Hp → Prop, (∀ σ' H', N σ' H' → ∃ m', m' < m ∧ W (i + 1) m' σ' H') ∧ ∀ x H', (Itl K a).yld i H x H' → g x σ H' fun σ2 H2 => tb { D with nx := N, ct := N, bk := D.nx } σ2 H2) := by
  refine ⟨fun i m σ H => m = xs.length - i ∧ i ≤ xs.length ∧ Pv i σ H, ⟨xs.length, by simp, Nat.zero_le _, h0⟩, ?_⟩
  rintro i m σ H ⟨rfl, hi, p⟩
  have q := hl i σ H hi p
  by_cases hlt : i < xs.length
  · refine .inr ⟨⟨xs, xs[i], q, by simp [hlt]⟩, Pv (i + 1), fun σ' H' p' => ⟨xs.length - (i + 1), by omega, rfl, hlt, p'⟩, fun x H' y => ?_⟩
    obtain ⟨e, y⟩ := y
    subst e
    exact hs i x σ _ (y xs q) p
  · have e : i = xs.length := by omega
    subst e
    exact .inl ⟨⟨xs, q, Nat.le_refl _⟩, hd σ H p⟩
theorem for_range {lo : Int} {n : Nat} {g : TG} {tb : TS} {D : Ends} {σ : St} {H : Hp} (Pv : Nat → St → Hp → Prop) (h0 : Pv 0 σ H)
    (hs : ∀ i σ H, i < n → Pv i σ H → g (.int (lo + i)) σ H fun σ2 H2 => tb { D with nx := Pv (i + 1), ct := Pv (i + 1), bk := D.nx } σ2 H2) (hd : ∀ σ H, Pv n σ H → D.nx σ H) :
    ∃ W : Nat → Nat → St → Hp → Prop, (∃ m, W 0 m σ H) ∧ ∀ i m σ H, W i m σ H →
      ((Itr lo n).stop i H ∧ D.nx σ H) ∨ ((Itr lo n).go i H ∧ ∃ N : St → Hp → Prop, (∀ σ' H', N σ' H' → ∃ m', m' < m ∧ W (i + 1) m' σ' H') ∧ ∀ x H', (Itr lo n).yld i H x H' → g x σ H' fun σ2 H2 => tb { D with nx := N, ct := N, bk := D.nx } σ2 H2) := by
  refine ⟨fun i m σ H => m = n - i ∧ i ≤ n ∧ Pv i σ H, ⟨n, by simp, Nat.zero_le _, h0⟩, ?_⟩
  rintro i m σ H ⟨rfl, hi, p⟩
  by_cases hlt : i < n
  · refine .inr ⟨hlt, Pv (i + 1), fun σ' H' p' => ⟨n - (i + 1), by omega, rfl, hlt, p'⟩, fun x H' y => ?_⟩
    obtain ⟨e, y⟩ := y
    subst e y
    exact hs i σ _ hlt p
  · have e : i = n := by omega
    subst e
    exact .inl ⟨Nat.le_refl _, hd σ H p⟩
end L2

namespace L2
open PySem PySem.Spec PyProof.Rows

abbrev R2 := V → V → Hp → VK → Prop
/-- a two-place operation on values: f is binaryOp op, inplaceOp op or compareOp op -/
def OpR (X : Cx) (f : Value → Value → Sem Value) (r : R2) : Prop :=
  ∀ (pins : List (Addr × Obj)) (s : Shared) (σ : St) (H : Hp) (x y : V) (v u : Value) (Q : VK), Inv X pins σ H s → RelV x v → RelV y u → r x y H Q →
    wpAny (model X.prog X.w) X.A (f v u) (EP X pins σ Q) X.xe s
/-- a one-place operation -/
def UnR (X : Cx) (f : Value → Sem Value) (r : V → Hp → VK → Prop) : Prop :=
  ∀ (pins : List (Addr × Obj)) (s : Shared) (σ : St) (H : Hp) (x : V) (v : Value) (Q : VK), Inv X pins σ H s → RelV x v → r x H Q →
    wpAny (model X.prog X.w) X.A (f v) (EP X pins σ Q) X.xe s
/-- a call of a value that is known (a builtin, a type) with values -/
def CallR (X : Cx) (f : Value) (r : List V → Hp → VK → Prop) : Prop :=
  ∀ (pins : List (Addr × Obj)) (s : Shared) (σ : St) (H : Hp) (xs : List V) (us : List Value) (Q : VK), Inv X pins σ H s → Vals xs us → r xs H Q →
    wpAny (model X.prog X.w) X.A (call f us) (EP X pins σ Q) X.xe s
/-- a value's truth -/
def TruR (X : Cx) (r : V → Hp → (Bool → Hp → Prop) → Prop) : Prop :=
  ∀ (pins : List (Addr × Obj)) (s : Shared) (σ : St) (H : Hp) (x : V) (v : Value) (Q : Bool → Hp → Prop), Inv X pins σ H s → RelV x v → r x H Q →
    wpAny (model X.prog X.w) X.A (truthy v) (TP X pins σ Q) X.xe s

def tOp (r : R2) (ta tb : TE) : TE := fun σ H Q => ta σ H fun x H1 => tb σ H1 fun y H2 => r x y H2 Q
def tUn (r : V → Hp → VK → Prop) (ta : TE) : TE := fun σ H Q => ta σ H fun x H1 => r x H1 Q
/-- ints in, under C, and a value out -/
def rI (C : Int → Int → Prop) (g : Int → Int → V) : R2 := fun x y H Q => ∃ i j, x = .int i ∧ y = .int j ∧ C i j ∧ Q (g i j) H
def rI0 (g : Int → Int → V) : R2 := fun x y H Q => ∃ i j, x = .int i ∧ y = .int j ∧ Q (g i j) H
def rU (g : Int → V) : V → Hp → VK → Prop := fun x H Q => ∃ i, x = .int i ∧ Q (g i) H

section
variable {X : Cx} {a b c : Expr} {ta tb tc : TE} {pos : Pos}

theorem binT (ha : PE X a ta) (hb : PE X b tb) {pins : List (Addr × Obj)} {s : Shared} {σ : St} {H : Hp} {R : V → V → Hp → Prop} (I : Inv X pins σ H s)
    (h : ta σ H fun x H1 => tb σ H1 fun y H2 => R x y H2) {Q : Value → Shared → Prop} {f : Value → Value → Sem Value}
    (hf : ∀ v u s2 x y H2, Inv X pins σ H2 s2 → RelV x v → RelV y u → R x y H2 → wpAny (model X.prog X.w) X.A (f v u) Q X.xe s2) :
    wpAny (model X.prog X.w) X.A (eval a X.env) (fun v s₁ => wpAny (model X.prog X.w) X.A (eval b X.env) (fun u s₂ => wpAny (model X.prog X.w) X.A (f v u) Q X.xe s₂) X.xe s₁) X.xe s := by
  refine thn (ha pins s σ H _ I h) fun v s1 ⟨x, H1, I1, r1, q1⟩ => ?_
  refine thn (hb pins s1 σ H1 _ I1 q1) fun u s2 ⟨y, H2, I2, r2, q2⟩ => ?_
  exact hf v u s2 x y H2 I2 r1 r2 q2

theorem pe_op {op : Operator} {r : R2} (ho : OpR X (binaryOp op) r) (ha : PE X a ta) (hb : PE X b tb) : PE X (.BinOp a op b pos) (tOp r ta tb) := by
  intro pins s σ H Q I h
  exact wpAny_BinOp (binT ha hb I h fun v u s2 x y H2 I2 rx ry q => ho pins s2 σ H2 x y v u Q I2 rx ry q)
theorem pe_un {op : UnaryOp} {r : V → Hp → VK → Prop} (ho : UnR X (unaryOp op) r) (ha : PE X a ta) : PE X (.UnaryOp op a pos) (tUn r ta) := by
  intro pins s σ H Q I h
  exact UnaryOp_ (thn (ha pins s σ H _ I h) fun v s1 ⟨x, H1, I1, r1, q1⟩ => ho pins s1 σ H1 x v Q I1 r1 q1)
/-! ### ints -/
theorem opI {f : Value → Value → Sem Value} {C : Int → Int → Prop} {g : Int → Int → Int}
    (rule : ∀ (i j : Int) (t u : Tok) (s : Shared) (Q : Value → Shared → Prop) (E : Value → Shared → Prop), C i j → Q (.int (g i j) s.toks) { s with toks := s.toks + 1 } → wpAny (model X.prog X.w) X.A (f (.int i t) (.int j u)) Q E s) :
    OpR X f (rI C fun i j => .int (g i j)) := by
  intro pins s σ H x y v u Q I rx ry h
  obtain ⟨i, j, rfl, rfl, hc, q⟩ := h
  obtain ⟨t, rfl⟩ := rx
  obtain ⟨t', rfl⟩ := ry
  exact rule i j t t' s _ _ hc ⟨.int (g i j), H, I.tok _, ⟨_, rfl⟩, q⟩
theorem opI0 {f : Value → Value → Sem Value} {g : Int → Int → Int}
    (rule : ∀ (i j : Int) (t u : Tok) (s : Shared) (Q : Value → Shared → Prop) (E : Value → Shared → Prop), Q (.int (g i j) s.toks) { s with toks := s.toks + 1 } → wpAny (model X.prog X.w) X.A (f (.int i t) (.int j u)) Q E s) :
    OpR X f (rI0 fun i j => .int (g i j)) := by
  intro pins s σ H x y v u Q I rx ry h
  obtain ⟨i, j, rfl, rfl, q⟩ := h
  obtain ⟨t, rfl⟩ := rx
  obtain ⟨t', rfl⟩ := ry
  exact rule i j t t' s _ _ ⟨.int (g i j), H, I.tok _, ⟨_, rfl⟩, q⟩
theorem opB0 {f : Value → Value → Sem Value} {g : Int → Int → Bool}
    (rule : ∀ (i j : Int) (t u : Tok) (s : Shared) (Q : Value → Shared → Prop) (E : Value → Shared → Prop), Q (.bool (g i j)) s → wpAny (model X.prog X.w) X.A (f (.int i t) (.int j u)) Q E s) :
    OpR X f (rI0 fun i j => .bl (g i j)) := by
  intro pins s σ H x y v u Q I rx ry h
  obtain ⟨i, j, rfl, rfl, q⟩ := h
  obtain ⟨t, rfl⟩ := rx
  obtain ⟨t', rfl⟩ := ry
  exact rule i j t t' s _ _ ⟨.bl (g i j), H, I, rfl, q⟩

def CPow (i j : Int) : Prop := 0 ≤ j ∧ j ≤ 1000000 ∧ i.natAbs < 2 ^ 64
def CMul (i j : Int) : Prop := (-(2 ^ 64) < i ∧ i < 2 ^ 64) ∨ (-(2 ^ 64) < j ∧ j < 2 ^ 64)
theorem CMul.ok {i j : Int} (h : CMul i j) : IntMulOk i j := by
  rcases h with ⟨h1, h2⟩ | ⟨h1, h2⟩
  · exact .of_left (intBits_le_64 h1 h2)
  · exact .of_right (intBits_le_64 h1 h2)
theorem op_add : OpR X (binaryOp .Add) (rI0 fun i j => .int (i + j)) := opI0 fun _ _ _ _ _ _ _ q => add_int q
theorem op_sub : OpR X (binaryOp .Sub) (rI0 fun i j => .int (i - j)) := opI0 fun _ _ _ _ _ _ _ q => sub_int q
theorem op_mul : OpR X (binaryOp .Mult) (rI CMul fun i j => .int (i * j)) := opI fun _ _ _ _ _ _ _ hc q => mul_int q hc.ok
/-- % by a positive divisor of any size -/
theorem op_mod : OpR X (binaryOp .Mod) (rI (fun _ j => 0 < j) fun i j => .int (i % j)) := opI fun i j _ _ _ _ _ hc q => by
  have h1 : (0 : Int) < j := hc
  exact mod_int' (by omega) (by rw [Int.fmod_eq_emod_of_nonneg i (by omega)]; exact q)
theorem op_pow : OpR X (binaryOp .Pow) (rI CPow fun i j => .int (i ^ j.toNat)) := opI fun _ _ _ _ _ _ _ hc q => pow_int_small hc.1 hc.2.1 hc.2.2 q
theorem unI {f : Value → Sem Value} {g : Int → Int}
    (rule : ∀ (i : Int) (t : Tok) (s : Shared) (Q : Value → Shared → Prop) (E : Value → Shared → Prop), Q (.int (g i) s.toks) { s with toks := s.toks + 1 } → wpAny (model X.prog X.w) X.A (f (.int i t)) Q E s) :
    UnR X f (rU fun i => .int (g i)) := by
  intro pins s σ H x v Q I rx h
  obtain ⟨i, rfl, q⟩ := h
  obtain ⟨t, rfl⟩ := rx
  exact rule i t s _ _ ⟨.int (g i), H, I.tok _, ⟨_, rfl⟩, q⟩
theorem un_neg : UnR X (unaryOp .USub) (rU fun i => .int (-i)) := unI fun _ _ _ _ _ q => neg_int q
/-! ### bools among ints: n += (a < b) -/
end

/-! ### comparisons -/
/-- the scalars that == tells apart as data does -/
def scal : V → V → Bool
  | .non, .non => true | .non, .int _ => true | .int _, .non => true | .non, .bl _ => true | .bl _, .non => true | .non, .str _ => true | .str _, .non => true
  | .int _, .int _ => true | .bl _, .bl _ => true | .str _, .str _ => true | .byt _, .byt _ => true
  | .int _, .str _ => true | .str _, .int _ => true | .bl _, .str _ => true | .str _, .bl _ => true
  | _, _ => false
def rEq : R2 := fun x y H Q => scal x y = true ∧ Q (.bl (decide (x = y))) H
def rNe : R2 := fun x y H Q => scal x y = true ∧ Q (.bl (!decide (x = y))) H

theorem dec_int {i j : Int} : decide (V.int i = V.int j) = (i == j) := by
  rw [Bool.eq_iff_iff]
  simp
theorem dec_bl {i j : Bool} : decide (V.bl i = V.bl j) = (i == j) := by
  rw [Bool.eq_iff_iff]
  simp
theorem dec_str {i j : Str} : decide (V.str i = V.str j) = (i == j) := by
  rw [Bool.eq_iff_iff]
  simp
theorem dec_byt {i j : Array UInt8} : decide (V.byt i = V.byt j) = (i.toList == j.toList) := by
  rw [Bool.eq_iff_iff]
  cases i
  cases j
  simp

section
variable {X : Cx} {a b c : Expr} {ta tb tc : TE} {pos : Pos}
theorem fin_bl {pins : List (Addr × Obj)} {σ : St} {H : Hp} {s : Shared} {Q : VK} {k k' : Bool} (I : Inv X pins σ H s) (q : Q (.bl k) H) (e : k = k') : EP X pins σ Q (.bool k') s := by
  subst e
  exact ⟨.bl k, H, I, rfl, q⟩
theorem op_eq : OpR X (compareOp .Eq) rEq := by
  intro pins s σ H x y v u Q I rx ry h
  obtain ⟨hs, q⟩ := h
  cases x with
  | non =>
    cases rx
    cases y with
    | non => cases ry; exact PySem.EqNone.eq_none_none (fin_bl I q (by simp))
    | bl j => cases ry; exact PySem.EqNone.eq_none_bool (fin_bl I q (by simp))
    | int j => obtain ⟨t', rfl⟩ := ry; exact PySem.EqNone.eq_none_int (fin_bl I q (by simp))
    | str j => obtain ⟨t', rfl⟩ := ry; exact PySem.EqNone.eq_none_str (fin_bl I q (by simp))
    | _ => exact absurd (show false = true from hs) Bool.false_ne_true
  | bl i =>
    cases rx
    cases y with
    | non => cases ry; exact PySem.EqNone.eq_bool_none (fin_bl I q (by simp))
    | bl j => cases ry; exact eq_bool (fin_bl I q dec_bl)
    | str j => obtain ⟨t', rfl⟩ := ry; exact PySem.EqMixed.eq_bool_str (fin_bl I q (by simp))
    | _ => exact absurd (show false = true from hs) Bool.false_ne_true
  | int i =>
    obtain ⟨t, rfl⟩ := rx
    cases y with
    | non => cases ry; exact PySem.EqNone.eq_int_none (fin_bl I q (by simp))
    | int j => obtain ⟨t', rfl⟩ := ry; exact eq_int (fin_bl I q dec_int)
    | str j => obtain ⟨t', rfl⟩ := ry; exact PySem.EqMixed.eq_int_str (fin_bl I q (by simp))
    | _ => exact absurd (show false = true from hs) Bool.false_ne_true
  | str i =>
    obtain ⟨t, rfl⟩ := rx
    cases y with
    | non => cases ry; exact PySem.EqNone.eq_str_none (fin_bl I q (by simp))
    | bl j => cases ry; exact PySem.EqMixed.eq_str_bool (fin_bl I q (by simp))
    | int j => obtain ⟨t', rfl⟩ := ry; exact PySem.EqMixed.eq_str_int (fin_bl I q (by simp))
    | str j => obtain ⟨t', rfl⟩ := ry; exact eq_str (fin_bl I q dec_str)
    | _ => exact absurd (show false = true from hs) Bool.false_ne_true
  | byt i =>
    obtain ⟨t, rfl⟩ := rx
    cases y with
    | byt j => obtain ⟨t', rfl⟩ := ry; exact PySem.W.eq_bytes (fin_bl I q dec_byt)
    | _ => exact absurd (show false = true from hs) Bool.false_ne_true
  | _ => cases y <;> exact absurd (show false = true from hs) Bool.false_ne_true
theorem op_ne : OpR X (compareOp .NotEq) rNe := by
  intro pins s σ H x y v u Q I rx ry h
  obtain ⟨hs, q⟩ := h
  cases x with
  | non =>
    cases rx
    cases y with
    | non => cases ry; exact PySem.EqNone.ne_none_none (fin_bl I q (by simp))
    | bl j => cases ry; exact PySem.EqNone.ne_none_bool (fin_bl I q (by simp))
    | int j => obtain ⟨t', rfl⟩ := ry; exact PySem.EqNone.ne_none_int (fin_bl I q (by simp))
    | str j => obtain ⟨t', rfl⟩ := ry; exact PySem.EqNone.ne_none_str (fin_bl I q (by simp))
    | _ => exact absurd (show false = true from hs) Bool.false_ne_true
  | bl i =>
    cases rx
    cases y with
    | non => cases ry; exact PySem.EqNone.ne_bool_none (fin_bl I q (by simp))
    | bl j => cases ry; exact ne_bool (fin_bl I q (congrArg not dec_bl))
    | str j => obtain ⟨t', rfl⟩ := ry; exact PySem.EqMixed.ne_bool_str (fin_bl I q (by simp))
    | _ => exact absurd (show false = true from hs) Bool.false_ne_true
  | int i =>
    obtain ⟨t, rfl⟩ := rx
    cases y with
    | non => cases ry; exact PySem.EqNone.ne_int_none (fin_bl I q (by simp))
    | int j => obtain ⟨t', rfl⟩ := ry; exact ne_int (fin_bl I q (congrArg not dec_int))
    | str j => obtain ⟨t', rfl⟩ := ry; exact PySem.EqMixed.ne_int_str (fin_bl I q (by simp))
    | _ => exact absurd (show false = true from hs) Bool.false_ne_true
  | str i =>
    obtain ⟨t, rfl⟩ := rx
    cases y with
    | non => cases ry; exact PySem.EqNone.ne_str_none (fin_bl I q (by simp))
    | bl j => cases ry; exact PySem.EqMixed.ne_str_bool (fin_bl I q (by simp))
    | int j => obtain ⟨t', rfl⟩ := ry; exact PySem.EqMixed.ne_str_int (fin_bl I q (by simp))
    | str j => obtain ⟨t', rfl⟩ := ry; exact ne_str (fin_bl I q (congrArg not dec_str))
    | _ => exact absurd (show false = true from hs) Bool.false_ne_true
  | byt i =>
    obtain ⟨t, rfl⟩ := rx
    cases y with
    | byt j => obtain ⟨t', rfl⟩ := ry; exact PySem.W.ne_bytes (fin_bl I q (congrArg not dec_byt))
    | _ => exact absurd (show false = true from hs) Bool.false_ne_true
  | _ => cases y <;> exact absurd (show false = true from hs) Bool.false_ne_true

theorem op_lt : OpR X (compareOp .Lt) (rI0 fun i j => .bl (decide (i < j))) := opB0 fun _ _ _ _ _ _ _ q => lt_int q
theorem op_le : OpR X (compareOp .LtE) (rI0 fun i j => .bl (decide (i ≤ j))) := opB0 fun _ _ _ _ _ _ _ q => le_int q
theorem op_gt : OpR X (compareOp .Gt) (rI0 fun i j => .bl (decide (j < i))) := opB0 fun _ _ _ _ _ _ _ q => gt_int q
theorem op_ge : OpR X (compareOp .GtE) (rI0 fun i j => .bl (decide (j ≤ i))) := opB0 fun _ _ _ _ _ _ _ q => ge_int q
/-- the one string within the other -/
theorem op_in_str : OpR X (compareOp .In) (fun x y H Q => ∃ i j, x = .str i ∧ y = .str j ∧ Q (.bl (!(Builtin.Str.occurrences j i 0 j.length 1).isEmpty)) H) := by
  intro pins s σ H x y v u Q I rx ry h
  obtain ⟨i, j, rfl, rfl, q⟩ := h
  obtain ⟨t, rfl⟩ := rx
  obtain ⟨t', rfl⟩ := ry
  exact in_str (fin_bl I q rfl)

theorem op_notin_str : OpR X (compareOp .NotIn) (fun x y H Q => ∃ i j, x = .str i ∧ y = .str j ∧ Q (.bl (!(!(Builtin.Str.occurrences j i 0 j.length 1).isEmpty))) H) := by
  intro pins s σ H x y v u Q I rx ry h
  obtain ⟨i, j, rfl, rfl, q⟩ := h
  obtain ⟨t, rfl⟩ := rx
  obtain ⟨t', rfl⟩ := ry
  exact notIn_str (fin_bl I q rfl)
theorem nomark (b : Expr) {op : CmpOp} (h : op ≠ .In := by decide) (h2 : op ≠ .NotIn := by decide) : behindInMarks op b = false := by
  have e1 : (op == CmpOp.In) = false := by cases op <;> first | rfl | exact absurd rfl h
  have e2 : (op == CmpOp.NotIn) = false := by cases op <;> first | rfl | exact absurd rfl h2
  cases b <;> simp [behindInMarks, e1, e2]
/-- a comparison as a value; hm: nomark b, or (for in, not in) by with_unfolding_all rfl -/
theorem pe_cmpR {op : CmpOp} {r : R2} (ho : OpR X (compareOp op) r) (ha : PE X a ta) (hb : PE X b tb) (hm : behindInMarks op b = false) : PE X (.Compare a [op] [b] pos) (tOp r ta tb) := by
  intro pins s σ H Q I h
  exact wpAny_Compare1 (binT ha hb I h fun v u s2 x y H2 I2 rx ry q => ho pins s2 σ H2 x y v u Q I2 rx ry q) hm
/-- a reading of a value as a test -/
def tTest (t : TE) : TT := fun σ H Q => t σ H fun x H' => ∃ k, x = .bl k ∧ Q k H'
theorem pt_cmpR {op : CmpOp} {r : R2} (ho : OpR X (compareOp op) r) (ha : PE X a ta) (hb : PE X b tb) (hm : behindInMarks op b = false) : PT X (.Compare a [op] [b] pos) (tTest (tOp r ta tb)) := by
  intro pins s σ H Q I h
  refine wpAny_isTrue_Compare1 (thn (ha pins s σ H _ I h) fun v s1 ⟨x, H1, I1, r1, q1⟩ => thn (hb pins s1 σ H1 _ I1 q1) fun u s2 ⟨y, H2, I2, r2, q2⟩ =>
    thn (ho pins s2 σ H2 x y v u _ I2 r1 r2 q2) fun c s3 ⟨z, H3, I3, r3, k, e, q3⟩ => ?_) hm
  subst e
  cases r3
  exact wpAny_truthy_bool ⟨H3, I3, q3⟩
/-- a op1 b op2 c -/
def tChain (r r' : R2) (ta tb tc : TE) : TE := fun σ H Q => ta σ H fun x H1 => tb σ H1 fun y H2 => r x y H2 fun z H3 => ∃ k, z = .bl k ∧
  (if k = true then tc σ H3 fun w' H4 => r' y w' H4 Q else Q (.bl false) H3)
theorem pe_chain {op op' : CmpOp} {r r' : R2} (ho : OpR X (compareOp op) r) (ho' : OpR X (compareOp op') r') (ha : PE X a ta) (hb : PE X b tb) (hc : PE X c tc)
    (hm : lastMarks [op, op'] [b, c] = false := by with_unfolding_all rfl) : PE X (.Compare a [op, op'] [b, c] pos) (tChain r r' ta tb tc) := by
  intro pins s σ H Q I h
  refine Compare_chain (thn (ha pins s σ H _ I h) fun v s1 ⟨x, H1, I1, r1, q1⟩ => chain_link (thn (hb pins s1 σ H1 _ I1 q1) fun u s2 ⟨y, H2, I2, r2, q2⟩ =>
    thn (ho pins s2 σ H2 x y v u _ I2 r1 r2 q2) fun d s3 ⟨z, H3, I3, r3, k, e, q3⟩ => ?_)) hm
  subst e
  cases r3
  refine wpAny_truthy_bool ?_
  cases k with
  | false => exact ite_ff ⟨.bl false, H3, I3, rfl, q3⟩
  | true => exact ite_tt (chain_last (thn (hc pins s3 σ H3 _ I3 q3) fun w' s4 ⟨z', H4, I4, r4, q4⟩ => ho' pins s4 σ H4 y z' u w' Q I4 r2 r4 q4))
theorem pt_chain {op op' : CmpOp} {r r' : R2} (ho : OpR X (compareOp op) r) (ho' : OpR X (compareOp op') r') (ha : PE X a ta) (hb : PE X b tb) (hc : PE X c tc)
    (hm : lastMarks [op, op'] [b, c] = false := by with_unfolding_all rfl) : PT X (.Compare a [op, op'] [b, c] pos) (tTest (tChain r r' ta tb tc)) := by
  intro pins s σ H Q I h
  refine isTrue_chain (thn (ha pins s σ H _ I h) fun v s1 ⟨x, H1, I1, r1, q1⟩ => test_link (thn (hb pins s1 σ H1 _ I1 q1) fun u s2 ⟨y, H2, I2, r2, q2⟩ =>
    thn (ho pins s2 σ H2 x y v u _ I2 r1 r2 q2) fun d s3 ⟨z, H3, I3, r3, k, e, q3⟩ => ?_)) hm
  subst e
  cases r3
  refine wpAny_truthy_bool ?_
  cases k with
  | false =>
    obtain ⟨k', e', q'⟩ := q3
    cases e'
    exact ite_ff ⟨H3, I3, q'⟩
  | true =>
    refine ite_tt (test_last (thn (hc pins s3 σ H3 _ I3 q3) fun w' s4 ⟨z', H4, I4, r4, q4⟩ => thn (ho' pins s4 σ H4 y z' u w' _ I4 r2 r4 q4) fun d' s5 ⟨z2, H5, I5, r5, k2, e2, q5⟩ => ?_))
    subst e2
    cases r5
    exact wpAny_truthy_bool ⟨H5, I5, q5⟩

/-! ### truth -/
/-- a value's truth by the abstract heap -/
def TruV (K : PySem.W.Frag) (x : V) (H : Hp) (k : Bool) : Prop :=
  match x with
  | .non => k = false
  | .bl b => k = b
  | .int i => k = (i != 0)
  | .str y => y.length ≤ sizeLine ∧ k = ((y.length : Int) != 0)
  | .byt y => y.size ≤ sizeLine ∧ k = ((y.size : Int) != 0)
  | .ref p => (∃ xs, SqL K H p xs ∧ k = !xs.isEmpty) ∨ (∃ xs, SqT K H p xs ∧ k = !xs.isEmpty) ∨ ∃ kvs, H p = some (.dK kvs) ∧ k = !kvs.isEmpty
  | _ => False
theorem isEmpty_kv {κ : Type} {kvs : List (κ × V)} {vs : List (κ × Value)} (r : KV kvs vs) : (!vs.isEmpty) = !kvs.isEmpty := by
  cases r <;> rfl
theorem isEmpty_of {xs : List V} {its : List Value} (r : Vals xs its) : (!its.toArray.isEmpty) = !xs.isEmpty := by
  cases r <;> simp
theorem line63 : (sizeLine : Nat) < 2 ^ 63 := by rw [sizeLine_eq]; decide
theorem tru_ok : TruR X (fun x H Q => ∃ k, TruV X.K x H k ∧ Q k H) := by
  intro pins s σ H x v Q I rx h
  obtain ⟨k, e, q⟩ := h
  have hl := line63
  have hs : sizeLine = 16777216 := sizeLine_eq
  cases x with
  | non =>
    cases rx
    have e' : k = false := e
    subst e'
    exact truthy_none ⟨H, I, q⟩
  | bl b =>
    cases rx
    have e' : k = b := e
    subst e'
    exact wpAny_truthy_bool ⟨H, I, q⟩
  | int i =>
    obtain ⟨t, rfl⟩ := rx
    have e' : k = (i != 0) := e
    subst e'
    exact PySem.P.truthy_int ⟨H, I, q⟩
  | str y =>
    obtain ⟨t, rfl⟩ := rx
    obtain ⟨hy, e'⟩ : y.length ≤ sizeLine ∧ k = ((y.length : Int) != 0) := e
    subst e'
    exact PySem.P.truthy_str (by omega) ⟨H, I.tok _, q⟩
  | byt y =>
    obtain ⟨t, rfl⟩ := rx
    obtain ⟨hy, e'⟩ : y.size ≤ sizeLine ∧ k = ((y.size : Int) != 0) := e
    subst e'
    exact PySem.W.truthy_bytes (by omega) ⟨H, I.tok _, q⟩
  | ref p =>
    cases rx
    have e' : (∃ xs, SqL X.K H p xs ∧ k = !xs.isEmpty) ∨ (∃ xs, SqT X.K H p xs ∧ k = !xs.isEmpty) ∨ ∃ kvs, H p = some (.dK kvs) ∧ k = !kvs.isEmpty := e
    rcases e' with ⟨xs, hx, e'⟩ | ⟨xs, hx, e'⟩ | ⟨kvs, hx, e'⟩
    · subst e'
      obtain ⟨its, r, pl, hz⟩ := I.list hx
      have hlen := r.length
      exact wpAny_truthy_list pl.isList (by simp only [List.size_toArray]; omega) ⟨H, I.tok _, by rw [isEmpty_of r]; exact q⟩
    · subst e'
      obtain ⟨its, r, pl, hz⟩ := I.tuple hx
      have hlen := r.length
      exact truthy_tuple pl (by simp only [List.size_toArray]; omega) ⟨H, I.tok _, by rw [isEmpty_of r]; exact q⟩
    · subst e'
      obtain ⟨hz, hS, vs, r, m⟩ : kvs.length ≤ sizeLine ∧ (p == sysModules) = false ∧ ∃ vs, KV kvs vs ∧ s.heap.DictOf (mixKind X.prog X.w) p vs := I.hok p _ hx
      have hlen : kvs.length = vs.length := Paired.length r
      exact wpAny_truthy_dict hS m (by omega) ⟨H, I.tok _, by rw [isEmpty_kv r]; exact q⟩
  | _ => exact (show False from e).elim
/-- any expression whose test is its value's truth (a name, a call, a subscript, a field ..: he by fun _ => rfl) -/
theorem pt_truth (ha : PE X a ta) (he : ∀ whole, isTrue a X.env whole = (do let v ← whole; standAt a.pos; holding [v] (truthy v))) :
    PT X a (fun σ H Q => ta σ H fun x H' => ∃ k, TruV X.K x H' k ∧ Q k H') := by
  intro pins s σ H Q I h
  exact isTrue_plain (thn (ha pins s σ H _ I h) fun v s1 ⟨x, H1, I1, r1, q1⟩ => tru_ok pins s1 σ H1 x v Q I1 r1 q1) (he _)

/-! ### strs and bytes -/
theorem op_add_str : OpR X (binaryOp .Add) (fun x y H Q => ∃ i j, x = .str i ∧ y = .str j ∧ i.length + j.length ≤ sizeLine ∧ Q (.str (i ++ j)) H) := by
  intro pins s σ H x y v u Q I rx ry h
  obtain ⟨i, j, rfl, rfl, hz, q⟩ := h
  obtain ⟨t, rfl⟩ := rx
  obtain ⟨t', rfl⟩ := ry
  exact add_str (fun t' tk => ⟨.str (i ++ j), H, I.tok _, ⟨_, rfl⟩, q⟩) hz
/-! ### scalar builtins, by CallR -/
theorem vals1 {x : V} {us : List Value} (r : Vals [x] us) : ∃ u, us = [u] ∧ RelV x u := by
  cases r with
  | cons r1 r2 => cases r2; exact ⟨_, rfl, r1⟩
theorem vals2 {x y : V} {us : List Value} (r : Vals [x, y] us) : ∃ u w', us = [u, w'] ∧ RelV x u ∧ RelV y w' := by
  cases r with
  | cons r1 r2 =>
    cases r2 with
    | cons r3 r4 => cases r4; exact ⟨_, _, rfl, r1, r3⟩
theorem call_int1 : CallR X (.type "int") (fun xs H Q => (∃ i, xs = [.int i] ∧ Q (.int i) H) ∨ ∃ k, xs = [.bl k] ∧ Q (.int (if k then 1 else 0)) H) := by
  intro pins s σ H xs us Q I r h
  rcases h with ⟨i, rfl, q⟩ | ⟨k, rfl, q⟩
  · obtain ⟨u, rfl, t, rfl⟩ := vals1 r
    exact call_int_int ⟨.int i, H, I, ⟨_, rfl⟩, q⟩
  · obtain ⟨u, rfl, r1⟩ := vals1 r
    cases r1
    exact call_int_bool ⟨.int (if k then 1 else 0), H, I.tok _, ⟨_, rfl⟩, q⟩
end
end L2

namespace L2
open PySem PySem.Spec PyProof.Rows

/-! ### an instance, its attributes a map -/
structure ObjM (h : Heap) (x dx C : Addr) (mA : Str → Option Value) : Prop where
  obj : h.get? x = some (PySem.W.instObj C dx)
  ns : h.Ns1 dx mA
  ne : dx ≠ x

theorem lookIn_ns {h : Heap} {dx : Addr} {mA : Str → Option Value} (n : h.Ns1 dx mA) : ∃ od, h.get? dx = some od ∧ ∀ name, PySem.W.lookIn name od = some (mA name) := by
  obtain ⟨o, es, ep, ho, hd, hk, _, hm⟩ := n
  refine ⟨o, ho, fun name => ?_⟩
  have e := hm name
  unfold nsFind findBy at e
  rw [← Array.find?_toList] at e
  unfold PySem.W.lookIn
  rw [hd]
  dsimp only
  split
  · rename_i y q
    rw [q] at e
    exact congrArg some e
  · rename_i q
    rw [q] at e
    have a : es.toList.any (·.refKey) = false := by
      rw [List.any_eq_false]
      intro y hy
      obtain ⟨z, t, hkey⟩ := hk y (Array.mem_toList_iff.mp hy)
      simp [DictEntry.refKey, hkey]
    have a' : ¬ es.toList.any (·.refKey) = true := by rw [a]; exact Bool.false_ne_true
    rw [if_neg a']
    exact congrArg some e

theorem ObjM.look {h : Heap} {x dx C : Addr} {mA : Str → Option Value} (I : ObjM h x dx C mA) : ∃ od, PySem.W.InstAt h x (PySem.W.instObj C dx) C (some od) ∧ ∀ name, PySem.W.lookIn name od = some (mA name) :=
  let ⟨od, ho, hl⟩ := lookIn_ns I.ns
  ⟨od, ⟨I.obj, rfl, rfl, ho⟩, hl⟩

section
variable {prog : Program} {w : World} {A : Around} {E : Value → Shared → Prop} {s : Shared} {K : PySem.W.Frag} {x dx C f : Addr} {mA : Str → Option Value} {name : Str} {v : Value}

end

/-! ### the attributes as a list of pairs -/
theorem RelO.some_of {v : V} {o : Option Value} (r : RelO (some v) o) : ∃ u, o = some u ∧ RelV v u := by
  cases o with
  | none => exact (show False from r).elim
  | some u => exact ⟨u, rfl, r⟩
theorem handed_of {v : V} {u : Value} (r : RelV v u) : PySem.W.handedIn u = true := by
  cases v with
  | non => cases (show u = Value.none from r); rfl
  | bl b => cases (show u = Value.bool b from r); rfl
  | int i => obtain ⟨t, e⟩ := (show ∃ t, u = Value.int i t from r); cases e; rfl
  | str x => obtain ⟨t, e⟩ := (show ∃ t, u = Value.str x t from r); cases e; rfl
  | byt b => obtain ⟨t, e⟩ := (show ∃ t, u = Value.bytes b t from r); cases e; rfl
  | flt b => obtain ⟨t, e⟩ := (show ∃ t, u = Value.float b t from r); cases e; rfl
  | ref a => cases (show u = Value.ref a from r); rfl
  | ty n => cases (show u = Value.type n from r); rfl

section
variable {P : Program} {w : World} {H H' : Hp} {h h' : Heap} {a C dx : Addr} {fs fs' : List (Str × V)}
theorem ins_get (hok : HOk P w H h) (e : H a = some (.ins C dx fs)) : ∃ mA, ObjM h a dx C mA ∧ (∀ f, RelO (fs.lookup f) (mA f)) ∧ PySem.Within mA (fs.map (·.1)) ∧ fs.length ≤ 1000 ∧ H dx = some (.own a) := by
  obtain ⟨d, z, ne, ob, mA, n, r, q⟩ := (show ObjOk P w H h a (.ins C dx fs) from hok a _ e)
  exact ⟨mA, ⟨ob, n, ne⟩, r, q, z, d⟩
end

/-! ### what of the text a class must have -/
structure Cls (K : PySem.W.Frag) (C : Addr) : Prop where
  pg : PySem.W.plainGet K C Str.empty = true
  hd : PySem.W.hasDictIn K C = true
  po : PySem.W.plainOver K C = true
  sa : PySem.W.findIn K (.ref C) "__setattr__" = some (some (.builtin "object.__setattr__"))
theorem Cls.get {K : PySem.W.Frag} {C : Addr} (c : Cls K C) (f : Str) : PySem.W.plainGet K C f = true := c.pg
/-- no class of it has the name -/
def NoAttr (K : PySem.W.Frag) (C : Addr) (f : Str) : Prop := PySem.W.findIn K (.ref C) f = some none
section
variable {X : Cx} {pins : List (Addr × Obj)} {σ : St} {H : Hp} {s : Shared} {a C dx : Addr} {fs : List (Str × V)} {f : Str} {v : V} {A : Around} {E : Value → Shared → Prop}

/-- e.f where nothing but the object is asked: through attributeBase (super) and the last hold -/
theorem attr_of {prog : Program} {w : World} {env : Env} {e : Expr} {f : Str} {pos : Pos} {s : Shared} {Q : Value → Shared → Prop} (hb : attributeBase e f env (eval e env) = eval e env)
    (h : wpAny (model prog w) A (eval e env) (fun o s₁ => wpAny (model prog w) A (getAttr o f true) Q E s₁) E s) : wpAny (model prog w) A (eval (.Attribute e f pos) env) Q E s :=
  Attribute_any_ h (by rw [arm_eval_Attribute, hb])
end

/-! ### readings and rules -/
section
variable {X : Cx} {o e value : Expr} {f : Str} {pos pos' tpos : Pos} {ta tv : TE}
end

/-! ### isinstance -/
section
variable {X : Cx} {pins : List (Addr × Obj)} {σ : St} {H : Hp} {s : Shared} {A : Around} {E : Value → Shared → Prop} {Q : Value → Shared → Prop} {c : Value} {b : Bool}
/-- the type of a value, as the fragment's deciders take it; for an instance its class -/
inductive TyOf (K : PySem.W.Frag) (H : Hp) : V → Value → Prop where
  | non : TyOf K H .non (.type "NoneType")
  | bl (x : Bool) : TyOf K H (.bl x) (.type "bool")
  | int (i : Int) : TyOf K H (.int i) (.type "int")
  | str (x : Str) : TyOf K H (.str x) (.type "str")
  | flt (x : UInt64) : TyOf K H (.flt x) (.type "float")
  | lst {a : Addr} {xs : List V} (e : H a = some (.lst xs)) : TyOf K H (.ref a) (.type "list")
  | frz {a : Addr} {o : Obj} {xs : List V} (e : H a = some (.frz o (.lst xs))) : TyOf K H (.ref a) (.type "list")
  | tup {a : Addr} {xs : List V} (e : H a = some (.tup xs)) : TyOf K H (.ref a) (.type "tuple")
  | dK {a : Addr} {kvs : List (Key × V)} (e : H a = some (.dK kvs)) : TyOf K H (.ref a) (.type "dict")
  | dT {a : Addr} {kvs : List (List Key × V)} (e : H a = some (.dT kvs)) : TyOf K H (.ref a) (.type "dict")
  | ins {a C dx : Addr} {fs : List (Str × V)} (e : H a = some (.ins C dx fs)) (cl : Cls K C) (ha : PySem.W.findIn K (.ref C) "__class__" = some (some (.builtin "object.__class__")))
      (hn : PySem.W.specialIn K (.builtin "object.__class__") "__get__" = some (some (.builtin "getset_descriptor.__get__"))) (htk : PySem.W.takesIn K (.builtin "object.__class__") = some true)
      (hm : PySem.W.mroIn K C (.type "object") = some true) : TyOf K H (.ref a) (.ref C)
/-- isinstance(x, c) for one class c, a built-in or an own one: kitOne's answer -/
theorem isinst_ok {x : V} {u t : Value} (I : Inv X pins σ H s) (rx : RelV x u) (ty : TyOf X.K H x t) (e : PySem.W.kitOne X.K t c = some b) (h : ∀ tk, Q (.bool b) { s with toks := tk }) :
    wpAny (model X.prog X.w) A (call (.builtin "isinstance") [u, c]) Q E s := by
  cases ty with
  | non => cases (show u = Value.none from rx); exact PySem.W.kia_one PySem.W.kitx_none I.kIn True.intro e (fun z => nomatch z) h
  | bl y => cases (show u = Value.bool y from rx); exact PySem.W.kia_one PySem.W.kitx_bool I.kIn True.intro e (fun z => nomatch z) h
  | int i => obtain ⟨t, q⟩ := (show ∃ t, u = Value.int i t from rx); cases q; exact PySem.W.kia_one PySem.W.kitx_int I.kIn True.intro e (fun z => nomatch z) h
  | str y => obtain ⟨t, q⟩ := (show ∃ t, u = Value.str y t from rx); cases q; exact PySem.W.kia_one PySem.W.kitx_str I.kIn True.intro e (fun z => nomatch z) h
  | flt y => obtain ⟨t, q⟩ := (show ∃ t, u = Value.float y t from rx); cases q; exact PySem.W.kia_one PySem.W.kitx_float I.kIn True.intro e (fun z => nomatch z) h
  | @lst a xs ea =>
    cases (show u = Value.ref a from rx)
    obtain ⟨_, _, n, _, h1⟩ := (show ObjOk X.prog X.w H s.heap a (.lst xs) from I.hok a _ ea)
    exact PySem.W.kia_one PySem.W.kitx_list I.kIn ⟨_, h1, rfl⟩ e (fun z => nomatch z) h
  | @frz a ob xs ea =>
    cases (show u = Value.ref a from rx)
    obtain ⟨_, _, _, n, _, h1⟩ := (show ObjOk X.prog X.w H s.heap a (.frz ob (.lst xs)) from I.hok a _ ea)
    exact PySem.W.kia_one PySem.W.kitx_list I.kIn ⟨_, h1, rfl⟩ e (fun z => nomatch z) h
  | @tup a xs ea =>
    cases (show u = Value.ref a from rx)
    obtain ⟨_, _, _, p⟩ := (show ObjOk X.prog X.w H s.heap a (.tup xs) from I.hok a _ ea)
    obtain ⟨o, h1, h2, _⟩ := p
    exact PySem.W.kia_one PySem.W.kitx_tuple I.kIn ⟨o, h1, h2⟩ e (fun z => nomatch z) h
  | @dK a kvs ea =>
    cases (show u = Value.ref a from rx)
    obtain ⟨_, _, vs, _, p⟩ := (show ObjOk X.prog X.w H s.heap a (.dK kvs) from I.hok a _ ea)
    obtain ⟨o, es, ep, h1, h2, _⟩ := p
    exact PySem.W.kia_one PySem.W.kitx_dict I.kIn ⟨o, h1, h2.1⟩ e (fun z => nomatch z) h
  | @dT a kvs ea =>
    cases (show u = Value.ref a from rx)
    obtain ⟨_, _, xs, _, o, es, ep, h1, h2, _⟩ := (show ObjOk X.prog X.w H s.heap a (.dT kvs) from I.hok a _ ea)
    exact PySem.W.kia_one PySem.W.kitx_dict I.kIn ⟨o, h1, h2.1⟩ e (fun z => nomatch z) h
  | @ins a C dx fs ea cl ha hn htk hm =>
    cases (show u = Value.ref a from rx)
    obtain ⟨mA, O, _⟩ := ins_get I.hok ea
    obtain ⟨od, J, _⟩ := O.look
    exact PySem.W.kia_one (PySem.W.kitx_own (cl.get _) cl.hd ha hn htk hm) I.kIn J e (fun z => nomatch z) h
end
end L2

namespace L2
open PySem PySem.Spec PyProof.Rows

/-! ### room -/
structure Room (k : Nat) (A : Around) : Prop where
  hd : A.handled = none
  dp : A.depth + 3 * k + 5 < recursionLimit
  un : A.units + 16 * k + 200 < cLine
  gd : A.guards = some []
theorem Room.mono {j k : Nat} {A : Around} (r : Room k A) (h : j ≤ k) : Room j A := ⟨r.hd, by have := r.dp; omega, by have := r.un; omega, r.gd⟩
theorem Room.deeper {k : Nat} {A : Around} (r : Room (k + 1) A) (env : Env) : Room k (A.deeper env) :=
  ⟨r.hd, by have := r.dp; show A.depth + 1 + 3 * k + 5 < _; omega, by have := r.un; show A.units + 3 + 16 * k + 200 < _; omega, r.gd⟩
theorem make_depth {A : Around} {C : Addr} {us : List Value} {kw : List (Str × Value)} : (A.under (.builtin "type.__call__" ⟨.ref C :: us, kw⟩)).depth = A.depth + 1 := by
  first | rfl | simp [Around.under, Code.weight, Code.isCreation, Code.isGuard, Code.isCaller, Code.frames, Code.isFrame, guardIds]
theorem make_units {A : Around} {C : Addr} {us : List Value} {kw : List (Str × Value)} : (A.under (.builtin "type.__call__" ⟨.ref C :: us, kw⟩)).units = A.units + 1 := by
  first | rfl | simp [Around.under, Code.cUnits, Code.frames, Code.isFrame]
theorem make_guards {A : Around} {C : Addr} {us : List Value} {kw : List (Str × Value)} : (A.under (.builtin "type.__call__" ⟨.ref C :: us, kw⟩)).guards = A.guards := by
  have e : (Code.builtin "type.__call__" ⟨.ref C :: us, kw⟩).isGuard = false := by
    show guardIds.contains "type.__call__" = false
    decide +kernel
  cases h : A.guards <;> simp [Around.under, Code.guards, pushGuards, e, h]
theorem Room.make {k : Nat} {A : Around} (r : Room (k + 1) A) (C : Addr) (us : List Value) (kw : List (Str × Value)) : Room k (A.under (.builtin "type.__call__" ⟨.ref C :: us, kw⟩)) :=
  ⟨r.hd, by have := r.dp; rw [make_depth]; omega, by have := r.un; rw [make_units]; omega, make_guards.trans r.gd⟩
theorem Room.depth {k : Nat} {A : Around} (r : Room k A) : A.depth < recursionLimit := by have := r.dp; omega
theorem Room.units {k : Nat} {A : Around} (r : Room k A) : A.units + 64 < cLine := by have := r.un; omega
/-! ### argument lists and displays -/
def tNil : TA := fun _ H Q => Q [] H
def tCons (ta : TE) (tr : TA) : TA := fun σ H Q => ta σ H fun x H1 => tr σ H1 fun xs H2 => Q (x :: xs) H2
section
variable {X : Cx} {e : Expr} {es : List Expr} {te : TE} {t : TA} {pos : Pos}
theorem pa_nil : PA X [] tNil := fun _ _ _ _ H Q I h => Calls.spliced_nil ⟨[], H, I, .nil, h⟩
theorem pa_cons (ha : PE X e te) (hr : PA X es t) (hs : starEach (e :: es) X.env = (false, eval e X.env) :: starEach es X.env := by rfl) : PA X (e :: es) (tCons te t) := by
  intro pos pins s σ H Q I h
  rw [hs]
  show wpAny _ _ (spliced ((false, eval e X.env) :: backTo pos (starEach es X.env))) _ _ s
  refine Calls.spliced_cons (thn (ha pins s σ H _ I h) fun u s1 ⟨x, H1, I1, r1, q1⟩ => ?_)
  exact thn (hr pos pins s1 σ H1 _ I1 q1) fun us s2 ⟨xs, H2, I2, r2, q2⟩ => ⟨x :: xs, H2, I2, .cons r1 r2, q2⟩

/-- a tuple, a list of written items -/
def tTup (t : TA) : TE := fun σ H Q => t σ H fun xs H1 => xs.length ≤ sizeLine ∧ ∀ p, H1 p = none → Q (.ref p) (upd H1 p (.tup xs))
def tLst (t : TA) : TE := fun σ H Q => t σ H fun xs H1 => xs.length ≤ sizeLine ∧ ∀ p, H1 p = none → Q (.ref p) (upd H1 p (.lst xs))
theorem pe_tup {x1} (h : PA X es t) : PE X (.Tuple es x1 pos) (tTup t) := by
  intro pins s σ H Q I hq
  refine wpAny_Tuple_spliced (thn (h pos pins s σ H _ I hq) fun us s1 ⟨xs, H1, I1, r, z, q⟩ => ⟨by rw [← r.length]; exact z, ?_⟩)
  have hf : H1 s1.heap.objs.size = none := I1.hok.fresh (Nat.le_refl _)
  refine ⟨.ref s1.heap.objs.size, upd H1 s1.heap.objs.size (.tup xs), I1.laid (t' := s1.toks) (fun b u e => Heap.get?_push_of_some _ e) (Nat.le_refl _) ?_, rfl, q _ hf⟩
  exact ⟨z, us, r, ⟨_, Heap.get?_push_size _ rfl, rfl, _, rfl, rfl⟩⟩
theorem pe_lst (h : PA X es t) : PE X (.List es pos) (tLst t) := by
  intro pins s σ H Q I hq
  refine wpAny_List_spliced (thn (h pos pins s σ H _ I hq) fun us s1 ⟨xs, H1, I1, r, z, q⟩ => ⟨by rw [← r.length]; exact z, ?_⟩)
  have hf : H1 s1.heap.objs.size = none := I1.hok.fresh (Nat.le_refl _)
  refine ⟨.ref s1.heap.objs.size, upd H1 s1.heap.objs.size (.lst xs), I1.laid (t' := s1.toks) (fun b u e => Heap.get?_push_of_some _ e) (Nat.le_refl _) ?_, rfl, q _ hf⟩
  exact ⟨z, us, 0, r, Heap.get?_push_size _ rfl⟩
end

/-! ### what a def promises -/
/-- a def's promise: the bound arguments in the parameters' order, the heap, the wanted end, the wanted exception -/
abbrev Sp := List V → Hp → VK → XK → Prop
/-- how an exception lies behind a call (file 08 gives it): the callers' frames, abstract heap and state ahead of the call, the wish, the exception, the state -/
abbrev CXT := List Env → Hp → Shared → XK → Value → Shared → Prop

/-- the state at a call -/
structure Env0 (P : Program) (w : World) (K : PySem.W.Frag) (mg : Str → Option Value) (base : Heap) (A : Around) (outer : List Env) (s : Shared) (H : Hp) : Prop where
  frames : A.frames = some outer
  mod : Mod K mg base
  bs : ∀ b o, base.get? b = some o → s.heap.get? b = some o ∧ H b = none
  bsz : base.objs.size ≤ s.heap.objs.size
  funs : s.heap.FunFrames base outer
  frf : ∀ b ∈ frs outer, H b = none
  hok : HOk P w H s.heap
  bare : AllBare s.gens
/-- a call's end -/
def CE (outer : List Env) (P : Program) (w : World) (H : Hp) (s : Shared) (Q : VK) (u : Value) (s' : Shared) : Prop :=
  ∃ v H', s'.os = s.os ∧ AllBare s'.gens ∧ Un (frs outer) [] H H' s.heap s'.heap ∧ HOk P w H' s'.heap ∧ RelV v u ∧ Q v H'
def CR (CX : CXT) (outer : List Env) (P : Program) (w : World) (H : Hp) (s : Shared) (Q : VK) (E : XK) (r : Result) (s' : Shared) : Prop :=
  match r with
  | .ok (.ret u) => CE outer P w H s Q u s'
  | .ok _ => False
  | .error e => CX outer H s E e s'
structure FnOk (P : Program) (w : World) (K : PySem.W.Frag) (mg : Str → Option Value) (base : Heap) (CX : CXT) (k : Nat) (f : Addr) (fd : FuncData) (ps : List Str) (sp : Sp) : Prop where
  len : ∀ vs H Q E, sp vs H Q E → vs.length = ps.length
  run : ∀ (A : Around) (outer : List Env) (s : Shared) (H : Hp) (args : Args) (us : List Value) (vs : List V) (Q : VK) (E : XK), Room k A → Env0 P w K mg base A outer s H → BindsTo s fd args (ps.zip us) → Vals vs us → sp vs H Q E →
    codeAny (model P w) A (.call (.ref f) args) (CR CX outer P w H s Q E) s
theorem Env0.make {P : Program} {w : World} {K : PySem.W.Frag} {mg : Str → Option Value} {base : Heap} {A : Around} {outer : List Env} {s : Shared} {H : Hp} (e : Env0 P w K mg base A outer s H) (C : Addr) (us : List Value) (kw : List (Str × Value)) :
    Env0 P w K mg base (A.under (.builtin "type.__call__" ⟨.ref C :: us, kw⟩)) outer s H := ⟨by first | exact e.frames | (simpa [Around.under, Code.envs, Code.isFrame, pushEnvs] using e.frames), e.mod, e.bs, e.bsz, e.funs, e.frf, e.hok, e.bare⟩
section
variable {X : Cx} {pins : List (Addr × Obj)} {σ : St} {H : Hp} {s s' : Shared}
/-- from a body: what a callee wants -/
theorem Inv.env0 (I : Inv X pins σ H s) : Env0 X.prog X.w X.K X.mg X.base X.A X.stack s H :=
  ⟨I.ok.frames, I.ok.mod, I.bs, Nat.le_trans I.ok.bsz I.sz, I.stack, I.stkFree, I.hok, I.bare⟩
/-- behind a call -/
theorem Inv.after {Q : VK} {u : Value} (I : Inv X pins σ H s) (h : CE X.stack X.prog X.w H s Q u s') : EP X pins σ Q u s' := by
  obtain ⟨v, H', os, bare, un, hok, r, q⟩ := h
  obtain ⟨hh, g, d, t, os'⟩ := s'
  obtain rfl : os' = s.os := os
  exact ⟨v, H', I.call (h' := hh) (g' := g) (d' := d) (t' := t) (ch := []) un hok bare (fun b z => absurd z (by simp)), r, q⟩
end

/-! ### calls -/
/-- f(..): the written arguments, then the defaults dvs; E: what is wanted of an exception -/
def tCall (sp : Sp) (dvs : List V) (E : XK) (t : TA) : TE := fun σ H Q => t σ H fun vs H1 => sp (vs ++ dvs) H1 Q E
/-- how the parameters are bound: us the positional arguments, kw the keywords' values by name, ds the defaults that fill up -/
def Binds (K : PySem.W.Frag) (fd : FuncData) (ps : List Str) (ds : List Value) : Prop :=
  ∀ (s : Shared) (us : List Value), K.In s.heap → (us ++ ds).length = ps.length → BindsTo s fd ⟨us, []⟩ (ps.zip (us ++ ds))
/-- every parameter is given -/
theorem Binds.all {K : PySem.W.Frag} {fd : FuncData} {ps : List Str} (h : ∀ us : List Value, us.length = ps.length → bindArgs fd ⟨us, []⟩ = pure (ps.zip us)) : Binds K fd ps [] := fun s us _ hl => by
  rw [List.append_nil] at hl ⊢
  exact .of_eq (h us hl)

/-- an exception of a callee reaches what this body wants of exceptions -/
def Passes (CX : CXT) (X : Cx) (E : XK) : Prop := ∀ (pins : List (Addr × Obj)) (σ : St) (H : Hp) (s : Shared) (e : Value) (s' : Shared), Inv X pins σ H s → CX X.stack H s E e s' → X.xe e s'

section
variable {X : Cx} {CX : CXT} {k : Nat} {f C : Addr} {fd : FuncData} {ps : List Str} {sp : Sp} {dvs : List V} {ds : List Value} {E : XK} {x m : Str} {p pos apos : Pos} {e o : Expr} {es : List Expr} {ta : TE} {t : TA}

/-- the callee runs -/
theorem run_fn {pins : List (Addr × Obj)} {σ : St} {H : Hp} {s : Shared} {Q : VK} {us : List Value} {vs : List V} (F : FnOk X.prog X.w X.K X.mg X.base CX k f fd ps sp) (hr : Room k X.A) (hb : Binds X.K fd ps ds) (hd : Vals dvs ds) (hx : Passes CX X E)
    (I : Inv X pins σ H s) (r : Vals vs us) (h : sp (vs ++ dvs) H Q E) : wpAny (model X.prog X.w) X.A (call (.ref f) us) (EP X pins σ Q) X.xe s := by
  have r2 : Vals (vs ++ dvs) (us ++ ds) := r.append hd
  have hl : (us ++ ds).length = ps.length := by rw [← r2.length]; exact F.len _ _ _ _ h
  refine wpAny_call (codeAny_mono (F.run X.A X.stack s H ⟨us, []⟩ (us ++ ds) (vs ++ dvs) Q E hr I.env0 (hb s us I.kIn hl) r2 h) fun r s' hq => ?_)
  cases r with
  | error e => exact hx pins σ H s e s' I hq
  | ok fl =>
    cases fl with
    | ret u => exact I.after hq
    | next => exact False.elim hq
    | brk => exact False.elim hq
    | cont => exact False.elim hq

theorem pe_call (F : FnOk X.prog X.w X.K X.mg X.base CX k f fd ps sp) (hr : Room k X.A) (hg : Gl X x) (hm : X.mg x = some (.ref f)) (hk : PySem.W.keepIn X.K (.ref f) = true) (hb : Binds X.K fd ps ds) (hd : Vals dvs ds) (hx : Passes CX X E)
    (ha : PA X (e :: es) t) (hdb : (x == ("__debug__" : Str)) = false := by decide) (he : starEach (e :: es) X.env = (false, eval e X.env) :: starEach es X.env := by rfl) (hpl : (backTo pos (starEach es X.env)).any (·.1) = false := by rfl) :
    PE X (.Call (.Name x p) (e :: es) [] pos) (tCall sp dvs E t) := by
  intro pins s σ H Q I h
  refine wpAny_Call_Name_kw (ld_glob I hg hm ?_ hdb)
  refine PySem.W.callWith_K (h₀ := X.base) I.ok.mod.kin hk (thn (ha pos pins s σ H _ I h) fun us s1 ⟨vs, H1, I1, r, q⟩ => ⟨I1.kIn, ?_⟩) he hpl
  exact run_fn F hr hb hd hx I1 r q
end

/-! ### keywords -/
section
variable {X : Cx} {CX : CXT} {k : Nat} {f C : Addr} {fd : FuncData} {ps ks : List Str} {sp : Sp} {E : XK} {x m : Str} {p pos apos kpos : Pos} {e o : Expr} {es : List Expr} {kws : List Keyword} {te ta : TE} {t tk : TA} {nm : Option Str}
variable {g : List Value → List Value → List Value} {gV : List V → List V → List V}
end

/-! ### a def's body keeps its promise -/
/-- names: the parameters first -/
structure FnScope (N P : List Str) (sc : Scope) : Prop where
  kind : sc.kind = .function
  co : sc.isCoroutine = false
  gen : sc.isGenerator = false
  nd : N.Nodup
  pre : N.take P.length = P
  par : ∀ x ∈ P, sc.names.lookup x = some .local ∨ sc.names.lookup x = some .cell
  nofree : ∀ y ∈ sc.names, y.2 ≠ .free

theorem bindL_out {kindOf : Str → Option NameKind} {x : Str} : ∀ {binds : List (Str × Value)} {m : Str → Option Value}, (∀ v, (x, v) ∉ binds) → bindL kindOf binds m x = m x
  | [], _, _ => rfl
  | (n, v) :: r, m, h => by
    unfold bindL
    rw [bindL_out fun w hw => h w (List.mem_cons_of_mem _ hw)]
    split
    · have : x ≠ n := by rintro rfl; exact h v List.mem_cons_self
      simp [this]
    · rfl
theorem bindC_out {kindOf : Str → Option NameKind} {x : Str} : ∀ {binds : List (Str × Value)} {m : Str → Option Value}, (∀ v, (x, v) ∉ binds) → bindC kindOf binds m x = m x
  | [], _, _ => rfl
  | (n, v) :: r, m, h => by
    unfold bindC
    rw [bindC_out fun w hw => h w (List.mem_cons_of_mem _ hw)]
    split
    · rfl
    · have : x ≠ n := by rintro rfl; exact h v List.mem_cons_self
      simp [this]
theorem bindL_get {kindOf : Str → Option NameKind} {x : Str} {v : Value} : ∀ {P : List Str} {vs : List Value} {i : Nat} {m : Str → Option Value}, P.Nodup → P[i]? = some x → vs[i]? = some v → kindOf x = some .local →
    bindL kindOf (P.zip vs) m x = some v
  | [], _, _, _, _, h, _, _ => by simp at h
  | _ :: _, [], _, _, _, _, h, _ => by simp at h
  | p :: P, w :: vs, 0, m, nd, h1, h2, hk => by
    simp at h1 h2; subst h1; subst h2
    show bindL kindOf ((p, w) :: P.zip vs) m p = _
    unfold bindL
    rw [bindL_out fun v hv => (List.nodup_cons.mp nd).1 (List.of_mem_zip hv).1, if_pos hk]
    simp
  | p :: P, w :: vs, i + 1, m, nd, h1, h2, hk => by
    show bindL kindOf ((p, w) :: P.zip vs) m x = _
    unfold bindL
    exact bindL_get (i := i) (List.nodup_cons.mp nd).2 (by simpa using h1) (by simpa using h2) hk
theorem bindC_get {kindOf : Str → Option NameKind} {x : Str} {v : Value} : ∀ {P : List Str} {vs : List Value} {i : Nat} {m : Str → Option Value}, P.Nodup → P[i]? = some x → vs[i]? = some v → kindOf x ≠ some .local →
    bindC kindOf (P.zip vs) m x = some v
  | [], _, _, _, _, h, _, _ => by simp at h
  | _ :: _, [], _, _, _, _, h, _ => by simp at h
  | p :: P, w :: vs, 0, m, nd, h1, h2, hk => by
    simp at h1 h2; subst h1; subst h2
    show bindC kindOf ((p, w) :: P.zip vs) m p = _
    unfold bindC
    rw [bindC_out fun v hv => (List.nodup_cons.mp nd).1 (List.of_mem_zip hv).1, if_neg hk]
    simp
  | p :: P, w :: vs, i + 1, m, nd, h1, h2, hk => by
    show bindC kindOf ((p, w) :: P.zip vs) m x = _
    unfold bindC
    exact bindC_get (i := i) (List.nodup_cons.mp nd).2 (by simpa using h1) (by simpa using h2) hk

/-- the names' values at the entry -/
def start (N : List Str) (vs : List V) : St := vs.map some ++ List.replicate (N.length - vs.length) none

/-- the context of a def's body, at its entry; an exception leaves the frame, then lies as CX says -/
def cxOf (CX : CXT) (P : Program) (w : World) (K : PySem.W.Frag) (mg : Str → Option Value) (base : Heap) (N : List Str) (qual : Str) (scope : Scope) (f : Addr) (cd : Value) (A : Around) (outer : List Env) (s : Shared) (H : Hp) (E : XK) : Cx where
  prog := P
  w := w
  K := K
  mg := mg
  base := base
  A := A.deeper (envOfC qual scope s.heap.objs.size f cd)
  N := N
  s₀ := s
  H₀ := H
  env := envOfC qual scope s.heap.objs.size f cd
  outer := outer
  stack := envOfC qual scope s.heap.objs.size f cd :: outer
  ex := []
  calm := true
  fn := fun _ => true
  pn := []
  xe := fun e s' => wpAny (model P w) (A.deeper (envOfC qual scope s.heap.objs.size f cd)) (leaving (envOfC qual scope s.heap.objs.size f cd) e) (fun _ s'' => CX outer H s E e s'') (fun e' s'' => CX outer H s E e' s'') s'

theorem cell_has {sc : Scope} {n : Nat} {x : Str} (h : sc.names.lookup x = some .cell) : ∃ c, (cellsFrom n sc.names []).lookup x = some c := by
  have q := PySem.W.cellsFrom_some sc.names n [] (.inl h)
  exact Option.isSome_iff_exists.mp q

theorem inv_start {CX : CXT} {P : Program} {w : World} {K : PySem.W.Frag} {mg : Str → Option Value} {base : Heap} {N ps : List Str} {qual : Str} {scope : Scope} {f : Addr} {cd : Value} {A : Around} {outer : List Env} {s s1 : Shared} {H : Hp} {E : XK} {us : List Value} {vs : List V}
    (S : FnScope N ps scope) (hd : A.handled = none) (e0 : Env0 P w K mg base A outer s H) (hl : vs.length = ps.length) (r : Vals vs us)
    (x : InCallC s s.heap.objs.size (bindL (envOfC qual scope s.heap.objs.size f cd).kindOf (ps.zip us) fun _ => none) (cellsFrom (s.heap.objs.size + 1) scope.names []) (bindC (envOfC qual scope s.heap.objs.size f cd).kindOf (ps.zip us) fun _ => none) s1) :
    Inv (cxOf CX P w K mg base N qual scope f cd A outer s H E) [] (start N vs) H s1 := by
  have hpl : ps.length ≤ N.length := by have := congrArg List.length S.pre; rw [List.length_take] at this; omega
  obtain ⟨h1, tk, rfl, hk⟩ := x.done
  have noA : ∀ b : Addr, b ∉ (cxOf CX P w K mg base N qual scope f cd A outer s H E).ex := fun b z => absurd (show b ∈ ([] : List Addr) from z) (by simp)
  refine ⟨⟨e0.mod, S.kind, rfl, rfl, Nat.le_refl _, fun y z c h1 h2 => ?_, fun y hy => ?_, fun y c _ h => ?_, fun _ => hd, Around.frames_deeper e0.frames, .inr ⟨rfl, rfl⟩, fun b z => absurd z (noA b), e0.bs, e0.bsz, fun b _ _ => noA b, fun b z => absurd z (noA b), e0.funs, e0.frf⟩,
    rfl, e0.bare, Un.kept hk, ⟨_, x.toInCall.ns, fun i y v h1 h2 h3 => ?_⟩, fun y c h => ⟨_, x.cell y c h⟩, e0.hok.fresh (Nat.le_refl _), fun y c h => ?_, fun p hp => absurd (show p ∈ ([] : List (Addr × Obj)) from hp) (by simp), e0.hok.kept hk, ?_⟩
  · exact name_of_addr x.apart (PySem.mem_of_lookup h1) (PySem.mem_of_lookup h2)
  · have hy : scope.names.lookup y = some .cell ∨ scope.names.lookup y = some .free := hy
    rcases hy with hy | hy
    · exact cell_has hy
    · exact absurd rfl (S.nofree _ (PySem.mem_of_lookup hy))
  · exact Nat.le_of_lt (x.above y c (PySem.mem_of_lookup h))
  · have hi : i < vs.length := by
      unfold start at h2
      by_cases hi : i < vs.length
      · exact hi
      · rw [List.getElem?_append_right (by simpa using hi)] at h2
        rw [List.getElem?_replicate] at h2
        split at h2 <;> cases h2
    have ha : vs[i]? = some v := by
      unfold start at h2
      rw [List.getElem?_append_left (by simpa using hi), List.getElem?_map] at h2
      cases e : vs[i]? with
      | none => rw [e] at h2; cases h2
      | some a => rw [e] at h2; cases h2; rfl
    obtain ⟨u, hu, rv⟩ := r.get ha
    have hp : ps[i]? = some y := by
      rw [← S.pre, List.getElem?_take_of_lt (by omega)]; exact h1
    have ndP : ps.Nodup := by rw [← S.pre]; exact S.nd.sublist (List.take_sublist _ _)
    refine ⟨u, rv, ?_⟩
    rcases S.par y (List.mem_of_getElem? hp) with k | k
    · exact .inl ⟨k, bindL_get ndP hp hu k⟩
    · obtain ⟨c, e⟩ := cell_has (n := s.heap.objs.size + 1) k
      refine .inr ⟨.inl k, c, e, ?_⟩
      have q := x.cell y c e
      rw [bindC_get ndP hp hu (by show scope.names.lookup y ≠ _; rw [k]; decide)] at q
      exact q
  · exact e0.hok.fresh (Nat.le_of_lt (x.above y c (PySem.mem_of_lookup h)))
  · unfold start
    show _ = N.length
    rw [List.length_append, List.length_map, List.length_replicate]
    omega

/-- THE RULE: a def (or a method) of the text, by its body. The body's reading t is chosen for each entry; it is run at the parameters' values -/
theorem fn_of {CX : CXT} {P : Program} {w : World} {K : PySem.W.Frag} {mg : Str → Option Value} {base : Heap} {k : Nat} {f : Addr} {name qual : Str} {params : Arguments} {body : List Stmt} {scope : Scope} {dV kV doc pm cdv ct oc : Value} {an od : Option Addr}
    {osl : Array (Option Value)} {N ps : List Str} {sp : Sp} (lk : K.lookup f = some ⟨oc, od, .func (PySem.W.fnOf name qual params body scope dV kV doc pm an cdv ct), osl⟩) (hcd : PySem.W.codeIn K cdv qual = true) (S : FnScope N ps scope)
    (len : ∀ vs H Q E, sp vs H Q E → vs.length = ps.length)
    (hbody : ∀ (A : Around) (outer : List Env) (s : Shared) (H : Hp) (vs : List V) (Q : VK) (E : XK), Room k (A.deeper (envOfC qual scope s.heap.objs.size f cdv)) → sp vs H Q E →
      ∃ t, PSs (cxOf CX P w K mg base N qual scope f cdv A outer s H E) body t ∧ t { nx := fun _ H' => Q .non H', rt := Q } (start N vs) H) :
    FnOk P w K mg base CX (k + 1) f (PySem.W.fnOf name qual params body scope dV kV doc pm an cdv ct) ps sp := by
  refine ⟨len, fun A outer s H args us vs Q E hr e0 hb r hsp => ?_⟩
  have hl := len _ _ _ _ hsp
  have KX : K.In s.heap := e0.mod.kin.keeps fun b o e => (e0.bs b o e).1
  have lim : s.heap.NoLimit := e0.mod.nolimit.keeps fun b o e => (e0.bs b o e).1
  have hkind : ∀ y ∈ ps.zip us, scope.names.lookup y.1 = some .local ∨ (scope.names.lookup y.1 = some .cell ∧ ((cellsFrom (s.heap.objs.size + 1) scope.names []).lookup y.1).isSome = true) := fun ⟨n, v⟩ hy => by
    rcases S.par n (List.of_mem_zip hy).1 with q | q
    · exact .inl q
    · exact .inr ⟨q, PySem.W.cellsFrom_some _ _ _ (.inl q)⟩
  refine codeAny_call_function hr.depth (KX _ _ lk) rfl S.co S.gen rfl (PySem.W.codeRec_of KX hcd) (hb _ _ _ _ ?_)
  refine wpAny_newFunctionEnv_cells S.kind hkind fun env he s1 x => ?_
  subst he
  refine ⟨lim.keeps x.toInCall.keep, codeAny_func ?_⟩
  obtain ⟨t, ht, hq⟩ := hbody A outer s H vs Q E (hr.deeper _) hsp
  have I : Inv (cxOf CX P w K mg base N qual scope f cdv A outer s H E) [] (start N vs) H s1 := inv_start S hr.hd e0 hl r x
  refine wpAny_mono (ht [] s1 (start N vs) H _ I hq) (fun fl s' hs => ?_) fun e s' hs => hs
  have fin : ∀ {σ' : St} {H' : Hp} {v : V} {u : Value}, Inv (cxOf CX P w K mg base N qual scope f cdv A outer s H E) [] σ' H' s' → RelV v u → Q v H' → CE outer P w H s Q u s' :=
    fun {σ' H' v u} J rv q => ⟨v, H', J.os, J.bare, J.base, J.hok, rv, q⟩
  cases fl with
  | ret u =>
    obtain ⟨v, σ', H', J, rv, q⟩ := hs
    exact fin J rv q
  | next =>
    obtain ⟨σ', H', J, q⟩ := hs
    exact fin (v := V.non) (u := Value.none) J rfl q
  | brk =>
    obtain ⟨_, _, _, q⟩ := hs
    exact False.elim q
  | cont =>
    obtain ⟨_, _, _, q⟩ := hs
    exact False.elim q
end L2

namespace L2
open PySem PySem.Spec PyProof.Rows
section
variable {X : Cx} {x : Str} {p pos : Pos} {e : Expr} {es : List Expr} {t : TA} {id T : String} {r : List V → Hp → VK → Prop}

def tCB (r : List V → Hp → VK → Prop) (t : TA) : TE := fun σ H Q => t σ H fun vs H1 => r vs H1 Q
/-- f(e, ..), f a built-in function -/
theorem pe_callB (hc : CallR X (.builtin id) r) (hg : Gl X x) (hm : X.mg x = none) (hv : bootBuiltins x = some (.builtin id)) (ha : PA X (e :: es) t) (hn : x ≠ "__name__" := by decide) (hdb : (x == ("__debug__" : Str)) = false := by decide)
    (he : starEach (e :: es) X.env = (false, eval e X.env) :: starEach es X.env := by rfl) (hpl : (backTo pos (starEach es X.env)).any (·.1) = false := by rfl) : PE X (.Call (.Name x p) (e :: es) [] pos) (tCB r t) := by
  intro pins s σ H Q I h
  refine wpAny_Call_Name_kw (ld_blt I hg hm hv ?_ hn hdb)
  exact PyProof.Rows.callWith_builtin1 (thn (ha pos pins s σ H _ I h) fun us s1 ⟨vs, H1, I1, r1, q1⟩ => hc pins s1 σ H1 vs us Q I1 r1 q1) he hpl
/-- T(e, ..), T a built-in type -/
theorem pe_callTy (hc : CallR X (.type T) r) (hg : Gl X x) (hm : X.mg x = none) (hv : bootBuiltins x = some (.type T)) (ha : PA X (e :: es) t) (hn : x ≠ "__name__" := by decide) (hdb : (x == ("__debug__" : Str)) = false := by decide)
    (he : starEach (e :: es) X.env = (false, eval e X.env) :: starEach es X.env := by rfl) (hpl : (backTo pos (starEach es X.env)).any (·.1) = false := by rfl) : PE X (.Call (.Name x p) (e :: es) [] pos) (tCB r t) := by
  intro pins s σ H Q I h
  refine wpAny_Call_Name_kw (ld_blt I hg hm hv ?_ hn hdb)
  exact PyProof.Rows.callWith_type1 (thn (ha pos pins s σ H _ I h) fun us s1 ⟨vs, H1, I1, r1, q1⟩ => hc pins s1 σ H1 vs us Q I1 r1 q1) he hpl
end
end L2

namespace L2
open PySem PySem.Spec PyProof.Rows

/-! ### lists of pairs as tables -/
section
variable {κ : Type} [DecidableEq κ]
end


/-! ### a tracked dict, its keys ints and texts or tuples of these -/
section
variable {P : Program} {w : World} {H : Hp} {h : Heap} {a : Addr}
end

section
variable {X : Cx} {pins : List (Addr × Obj)} {σ : St} {H : Hp} {s : Shared} {a : Addr} {y v : V} {u r : Value} {o : Option V} {A : Around} {E : Value → Shared → Prop}

end

section
variable {X : Cx} {pins : List (Addr × Obj)} {σ : St} {H : Hp} {s : Shared} {a : Addr} {kvs : List (Key × V)} {k : Key} {u : Value} {A : Around} {E : Value → Shared → Prop}
end


/-! ### readings and rules -/
section
variable {X : Cx} {o i e value : Expr} {pos pos' tpos : Pos} {td ty tv : TE}
end


/-! ### displays -/
section
variable {X : Cx} {pos : Pos}
end

/-! ### methods -/
section
variable {X : Cx} {pins : List (Addr × Obj)} {σ : St} {H : Hp} {s : Shared} {a : Addr} {y d : V} {u r : Value} {o : Option V} {A : Around} {E : Value → Shared → Prop}
end

section
variable {X : Cx} {o e f : Expr} {apos cpos : Pos} {td ty tx : TE}
end

/-! ### dict(d): a copy -/
section
variable {X : Cx} {pins : List (Addr × Obj)} {σ : St} {H : Hp} {s : Shared} {a : Addr} {kvs : List (Key × V)} {A : Around} {E : Value → Shared → Prop}
end


section
variable {X : Cx} {pins : List (Addr × Obj)} {σ : St} {H : Hp} {s : Shared} {a : Addr} {y : V} {u : Value} {A : Around} {E : Value → Shared → Prop}
end
end L2

namespace HT
open PySem PyProof.Rows

section
open PySem.SeqAt
open PySem.AutoSeq1 (wpAny_loadPart')
open PySem.MeetsSeq PySem.MeetsSeq2 PySem.MeetsSeq3

end

section
variable {prog : Program} {w : World} {A : Around} {E : Value → Shared → Prop} {s : Shared}

/-! ### t[a:b], not the whole -/
/-- a slice's bound as a place among n (d where it is left out) -/
def sIx (n d : Nat) : Option Int → Nat
  | none => d
  | some v => if v < 0 then (v + (n : Int)).toNat else min v.toNat n
theorem sIx_nat (n d k : Nat) : sIx n d (some (k : Int)) = min k n := by
  show (if (k : Int) < 0 then ((k : Int) + (n : Int)).toNat else min (k : Int).toNat n) = min k n
  rw [if_neg (by omega), Int.toNat_natCast]
theorem sIx_le (n d : Nat) (hd : d ≤ n) (o : Option Int) : sIx n d o ≤ n := by
  cases o with
  | none => exact hd
  | some v =>
    show (if v < 0 then (v + (n : Int)).toNat else min v.toNat n) ≤ n
    by_cases hv : v < 0
    · rw [if_pos hv]; omega
    · rw [if_neg hv]; exact Nat.min_le_right _ _
theorem clip_eq (v : Int) (n d : Nat) : (if v < 0 then max (v + (n : Int)) 0 else min v (n : Int)) = ((sIx n d (some v) : Nat) : Int) := by
  show (if v < 0 then max (v + (n : Int)) 0 else min v (n : Int)) = (((if v < 0 then (v + (n : Int)).toNat else min v.toNat n) : Nat) : Int)
  by_cases hv : v < 0
  · simp only [if_pos hv]; omega
  · simp only [if_neg hv]; omega
end
end HT

namespace L2
open PySem PySem.Spec PyProof.Rows

/-! ### the parts of a slice -/
abbrev TO := St → Hp → (Option Int → Hp → Prop) → Prop
/-- a slice's part (left out, or an int) -/
def PO (X : Cx) (e : Option Expr) (t : TO) : Prop :=
  ∀ (pins : List (Addr × Obj)) (s : Shared) (σ : St) (H : Hp) (Q : Option Int → Hp → Prop), Inv X pins σ H s → t σ H Q →
    wpAny (model X.prog X.w) X.A (evalPart e X.env) (fun u s' => ∃ o H', Inv X pins σ H' s' ∧ IsPart u o ∧ Q o H') X.xe s
def tNoPart : TO := fun _ H Q => Q none H
def tPart (t : TE) : TO := fun σ H Q => t σ H fun x H1 => ∃ i, x = .int i ∧ Q (some i) H1

section
variable {X : Cx} {e : Expr} {te : TE} {lo hi : Option Expr} {tl th : TO} {pos p2 : Pos}

theorem po_none : PO X none tNoPart := by
  intro pins s σ H Q I h
  rw [evalPart_none]
  exact wpAny_pure ⟨none, H, I, .none, h⟩
theorem po_some (h : PE X e te) : PO X (some e) (tPart te) := by
  intro pins s σ H Q I hw
  rw [evalPart_some]
  refine thn (h pins s σ H _ I hw) fun u s1 ⟨x, H1, I1, r1, q1⟩ => ?_
  obtain ⟨i, rfl, q⟩ := q1
  obtain ⟨t, rfl⟩ := r1
  exact ⟨some i, H1, I1, .int i t, q⟩

/-- what a slice of a value is, by values: the slice object stands at sl -/
def SlR (X : Cx) (r : V → Option Int → Option Int → Hp → VK → Prop) : Prop :=
  ∀ (pins : List (Addr × Obj)) (s : Shared) (σ : St) (H : Hp) (x : V) (v vl vu : Value) (lo hi : Option Int) (sl : Addr) (Q : VK), Inv X pins σ H s → RelV x v → s.heap.IsSliceOf sl vl vu .none → IsPart vl lo → IsPart vu hi → r x lo hi H Q →
    ∃ T id, typeLookup (.type T) "__getitem__" = pure (some (.builtin id)) ∧ s.TypeIs v T ∧ wpAny (model X.prog X.w) X.A (getItem v (.ref sl)) (EP X pins σ Q) X.xe s
def tSl (r : V → Option Int → Option Int → Hp → VK → Prop) (te : TE) (tl th : TO) : TE := fun σ H Q => te σ H fun x H1 => tl σ H1 fun l H2 => th σ H2 fun u H3 => r x l u H3 Q
/-- a[lo:hi], any a -/
theorem pe_slice {r : V → Option Int → Option Int → Hp → VK → Prop} (hr : SlR X r) (he : PE X e te) (hl : PO X lo tl) (hu : PO X hi th) : PE X (.Subscript e (.Slice lo hi none p2) pos) (tSl r te tl th) := by
  intro pins s σ H Q I h
  refine Subscript_ (thn (he pins s σ H _ I h) fun v s1 ⟨x, H1, I1, r1, q1⟩ => ?_)
  refine wpAny_Slice (thn (hl pins s1 σ H1 _ I1 q1) fun vl s2 ⟨l, H2, I2, pl, q2⟩ => thn (hu pins s2 σ H2 _ I2 q2) fun vu s3 ⟨u, H3, I3, pu, q3⟩ => ?_)
  rw [evalPart_none]
  refine wpAny_pure ?_
  have I4 : Inv X pins σ H3 { s3 with heap := s3.heap.push { cls := .type "slice", data := .fields #[vl, vu, .none] } } := I3.kept (t' := s3.toks) fun b ob q => Heap.get?_push_of_some _ q
  obtain ⟨T, id, hT, ht, hg⟩ := hr pins { s3 with heap := s3.heap.push { cls := .type "slice", data := .fields #[vl, vu, .none] } } σ H3 x v vl vu l u s3.heap.objs.size Q I4 r1 (Heap.IsSliceOf.new ..) pl pu q3
  show wpAny (model X.prog X.w) X.A (subscriptTail e (.Slice lo hi none p2) v (.ref s3.heap.objs.size)) (EP X pins σ Q) X.xe { s3 with heap := s3.heap.push { cls := .type "slice", data := .fields #[vl, vu, .none] } }
  exact tail_any (ops := [.ref s3.heap.objs.size, v]) ht hT hg (by with_unfolding_all rfl)

/-! ### t < u, t + u -/
end
end L2

namespace L2
open PySem PySem.Spec PyProof.Rows

/-! ### places -/
/-- the place that an index of any sign means -/
def ixN (n : Nat) (i : Int) : Option Nat := if 0 ≤ i then (if i < n then some i.toNat else none) else if -(n : Int) ≤ i then some (i + n).toNat else none
def atI {α : Type} (xs : List α) (i : Int) : Option α := (ixN xs.length i).bind fun j => xs[j]?
theorem ixN_seq {n : Nat} {i : Int} {j : Nat} (h : ixN n i = some j) : seqIndex? i n = some j ∧ j < n ∧ -(n : Int) ≤ i ∧ i < n := by
  unfold ixN at h
  by_cases h0 : 0 ≤ i
  · rw [if_pos h0] at h
    by_cases h1 : i < n
    · rw [if_pos h1] at h
      have e : i.toNat = j := Option.some.inj h
      exact ⟨by rw [seqIndex_of h0 h1, e], by omega, by omega, h1⟩
    · rw [if_neg h1] at h; cases h
  · rw [if_neg h0] at h
    by_cases h1 : -(n : Int) ≤ i
    · rw [if_pos h1] at h
      have e : (i + n).toNat = j := Option.some.inj h
      exact ⟨by rw [seqIndex_neg (by omega) h1, e], by omega, h1, by omega⟩
    · rw [if_neg h1] at h; cases h
theorem atI_get {α : Type} {xs : List α} {i : Int} {v : α} (h : atI xs i = some v) : ∃ j, seqIndex? i xs.length = some j ∧ xs[j]? = some v ∧ j < xs.length ∧ -(xs.length : Int) ≤ i ∧ i < xs.length := by
  unfold atI at h
  cases e : ixN xs.length i with
  | none => rw [e] at h; cases h
  | some j =>
    rw [e] at h
    obtain ⟨h1, h2, h3, h4⟩ := ixN_seq e
    exact ⟨j, h1, h, h2, h3, h4⟩
theorem atI_nat {α : Type} {xs : List α} {j : Nat} {v : α} (h : xs[j]? = some v) : atI xs (j : Int) = some v := by
  have hj : j < xs.length := (List.getElem?_eq_some_iff.mp h).1
  have e : ixN xs.length (j : Int) = some j := by
    unfold ixN
    rw [if_pos (by omega), if_pos (by omega)]; simp
  unfold atI; rw [e]; exact h
theorem atI_last {α : Type} (xs : List α) (v : α) : atI (xs ++ [v]) (-1) = some v := by
  have hl : (xs ++ [v]).length = xs.length + 1 := by simp
  have e : ixN (xs ++ [v]).length (-1) = some xs.length := by
    unfold ixN
    rw [hl, if_neg (by decide), if_pos (by omega)]
    congr 1
    omega
  unfold atI
  rw [e]
  show (xs ++ [v])[xs.length]? = some v
  simp

/-! ### what may be subscripted -/
/-- what stands as an index of a plain subscript -/
def PlainIx (b : Expr) : Prop := ∀ o i, subscripted b false o i = operate [o, i] (getItem o i)
/-- a subscript by values -/
def IxR (X : Cx) (r : R2) : Prop :=
  ∀ (value slice : Expr) (pins : List (Addr × Obj)) (s : Shared) (σ : St) (H : Hp) (x y : V) (v u : Value) (Q : VK), Inv X pins σ H s → RelV x v → RelV y u → r x y H Q →
    subscripted slice false v u = operate [v, u] (getItem v u) → wpAny (model X.prog X.w) X.A (subscriptTail value slice v u) (EP X pins σ Q) X.xe s
/-- a call of a builtin's method by values: the receiver, the arguments -/
def MtR (X : Cx) (id : String) (r : V → List V → Hp → VK → Prop) : Prop :=
  ∀ (pins : List (Addr × Obj)) (s : Shared) (σ : St) (H : Hp) (x : V) (xs : List V) (v : Value) (us : List Value) (Q : VK), Inv X pins σ H s → RelV x v → Vals xs us → r x xs H Q →
    wpAny (model X.prog X.w) X.A (call (.builtin id) (v :: us)) (EP X pins σ Q) X.xe s
section
variable {X : Cx} {a b : Expr} {ta tb : TE} {pos : Pos}
/-- a[b] -/
theorem pe_ix {r : R2} (hr : IxR X r) (ha : PE X a ta) (hb : PE X b tb) (hs : PlainIx b) : PE X (.Subscript a b pos) (tOp r ta tb) := by
  intro pins s σ H Q I h
  exact Subscript_ (binT ha hb I h fun v u s2 x y H2 I2 rx ry q => hr a b pins s2 σ H2 x y v u Q I2 rx ry q (hs _ _))

def rIxL (K : PySem.W.Frag) : R2 := fun x y H Q => ∃ p xs i v, x = .ref p ∧ y = .int i ∧ SqL K H p xs ∧ atI xs i = some v ∧ Q v H
def rIxT (K : PySem.W.Frag) : R2 := fun x y H Q => ∃ p xs i v, x = .ref p ∧ y = .int i ∧ SqT K H p xs ∧ atI xs i = some v ∧ Q v H
def rIxS : R2 := fun x y H Q => ∃ z i c, x = .str z ∧ y = .int i ∧ z.length ≤ sizeLine ∧ atI z.cps.toList i = some c ∧ Q (.str ⟨#[c]⟩) H
theorem ix_list : IxR X (rIxL X.K) := by
  intro value slice pins s σ H x y v u Q I rx ry h hs
  obtain ⟨p, xs, i, z, rfl, rfl, hq, he, q⟩ := h
  cases rx
  obtain ⟨t, rfl⟩ := ry
  obtain ⟨its, r, pl, hz⟩ := I.list hq
  obtain ⟨j, h1, h2, h3, h4, h5⟩ := atI_get he
  obtain ⟨w, ew, rw'⟩ := r.get h2
  have hl := r.length
  have hn := line63
  have fin : EP X pins σ Q w s := ⟨z, H, I, rw', q⟩
  by_cases h0 : 0 ≤ i
  · have hj : i.toNat = j := by
      rw [seqIndex_of h0 h5] at h1
      exact Option.some.inj h1
    exact item_listR pl.isList h0 (by omega) (by rw [hj]; simpa using ew) fin hs
  · have hj : (i + (its.toArray.size : Int)).toNat = j := by
      rw [seqIndex_neg (by omega) h4] at h1
      rw [List.size_toArray, ← hl]
      exact Option.some.inj h1
    exact subscriptTail_builtinR (x := w) pl.isList.typeIs slot_list_getitem.lookup
      (wpAny_getItem_list_neg (Q := fun r s' => r = w ∧ EP X pins σ Q r s') pl.isList (by omega) (by rw [List.size_toArray] <;> omega) (by omega) (by rw [hj]; simpa using ew) ⟨rfl, fin⟩) hs
theorem ix_tup : IxR X (rIxT X.K) := by
  intro value slice pins s σ H x y v u Q I rx ry h hs
  obtain ⟨p, xs, i, z, rfl, rfl, hq, he, q⟩ := h
  cases rx
  obtain ⟨t, rfl⟩ := ry
  obtain ⟨its, r, pl, hz⟩ := I.tuple hq
  obtain ⟨j, h1, h2, h3, h4, h5⟩ := atI_get he
  obtain ⟨w, ew, rw'⟩ := r.get h2
  have hl := r.length
  have hn := line63
  have fin : EP X pins σ Q w s := ⟨z, H, I, rw', q⟩
  exact subscriptTail_builtinR (x := w) pl.typeIs slot_tuple_getitem.lookup
    (getItem_tuple (j := j) (Q := fun r s' => r = w ∧ EP X pins σ Q r s') pl (by omega) (by omega) (by rw [List.size_toArray, ← hl]; exact h1) (by simpa using ew) ⟨rfl, fin⟩) hs
theorem ix_str : IxR X rIxS := by
  intro value slice pins s σ H x y v u Q I rx ry h hs
  obtain ⟨z, i, c, rfl, rfl, hz, he, q⟩ := h
  obtain ⟨t, rfl⟩ := rx
  obtain ⟨t', rfl⟩ := ry
  obtain ⟨j, h1, h2, h3, h4, h5⟩ := atI_get he
  have hl : z.cps.toList.length = z.length := by simp [Str.length]
  rw [hl] at h1 h4 h5
  have hn := line63
  exact tail_any (typeIs_str s z t) slot_str_getitem.lookup (getItem_str (c := c) (by
    have e1 : decide (i < -(2 ^ 63 : Int)) = false := decide_eq_false (by omega)
    have e2 : decide (i ≥ 2 ^ 63) = false := decide_eq_false (by omega)
    rw [e1, e2, Bool.or_false]) (by rw [h1]; simpa using h2) ⟨.str ⟨#[c]⟩, H, I.tok _, ⟨_, rfl⟩, q⟩) hs
/-! ### xs[i] = v, any sign -/
/-- the list's object behind a store -/
theorem mapSeq_set (its : List Value) (n j : Nat) (u : Value) : Obj.mapSeq (·.setIfInBounds j u) { cls := .type "list", data := .seq its.toArray n } = { cls := .type "list", data := .seq (its.set j u).toArray n } := by
  simp [Obj.mapSeq]
theorem Inv.lst {pins : List (Addr × Obj)} {σ : St} {H : Hp} {s : Shared} {p : Addr} {xs : List V} (I : Inv X pins σ H s) (h : H p = some (.lst xs)) :
    ∃ (its : List Value) (n : Nat), Vals xs its ∧ s.heap.get? p = some { cls := .type "list", data := .seq its.toArray n } ∧ xs.length ≤ sizeLine := by
  obtain ⟨z, its, n, r, e⟩ := I.hok p _ h
  exact ⟨its, n, r, e, z⟩
/-- the list at p is written by an update of its object -/
theorem Inv.lstUpd {pins : List (Addr × Obj)} {σ : St} {H : Hp} {s : Shared} {p : Addr} {xs ys : List V} {its its' : List Value} {n n' : Nat} {f : Obj → Obj} (I : Inv X pins σ H s) (h : H p = some (.lst xs))
    (ho : s.heap.get? p = some { cls := .type "list", data := .seq its.toArray n }) (hf : f { cls := .type "list", data := .seq its.toArray n } = { cls := .type "list", data := .seq its'.toArray n' }) (r : Vals ys its') (hz : ys.length ≤ sizeLine) (t : Nat) :
    Inv X pins σ (upd H p (.lst ys)) { s with heap := s.heap.update p f, toks := t } := by
  have e : (s.heap.update p f).get? p = some { cls := .type "list", data := .seq its'.toArray n' } := by
    rw [Heap.get?_update_self f ho (by rw [hf] <;> rfl), hf]
  refine I.write (x := p) (e := p) (by rw [h]; trivial) (.inl rfl) (fun b u hb q => (Heap.get?_update_other _ _ (Ne.symm hb)).trans q) ⟨_, e⟩ ?_
  exact ⟨hz, its', n', r, e⟩
def rSetL : V → V → V → Hp → (Hp → Prop) → Prop := fun o i v H Q => ∃ p xs k j, o = .ref p ∧ i = .int k ∧ H p = some (.lst xs) ∧ ixN xs.length k = some j ∧ Q (upd H p (.lst (xs.set j v)))
theorem set_list : PSet X rSetL := by
  intro pins s σ H o i v ov iv u Q I ro ri rv h
  obtain ⟨p, xs, k, j, rfl, rfl, hp, hj, q⟩ := h
  cases ro
  obtain ⟨t, rfl⟩ := ri
  obtain ⟨its, n, r, ho, hz⟩ := I.lst hp
  obtain ⟨h1, h2, h3, h4⟩ := ixN_seq hj
  have hl := r.length
  have hn := line63
  have I' : Inv X pins σ (upd H p (.lst (xs.set j v))) { s with heap := s.heap.update p (Obj.mapSeq (·.setIfInBounds j u)) } :=
    I.lstUpd hp ho (mapSeq_set its n j u) (r.set rv j) (by rw [List.length_set]; exact hz) s.toks
  by_cases h0 : 0 ≤ k
  · have hk : k.toNat = j := by
      rw [seqIndex_of h0 h4] at h1
      exact Option.some.inj h1
    exact PySem.W.ki_setAt ho h0 (by omega) (by rw [List.size_toArray, ← hl]; exact h4) (by rw [hk]; exact ⟨_, I', q⟩)
  · have hk : (k + (its.toArray.size : Int)).toNat = j := by
      rw [seqIndex_neg (by omega) h3] at h1
      rw [List.size_toArray, ← hl]
      exact Option.some.inj h1
    exact PySem.W.ki_setBack ho (by omega) (by rw [List.size_toArray, ← hl]; exact h3) (by omega) (by rw [hk]; exact ⟨_, I', q⟩)

/-! ### slices -/
/-! ### in, not in: flat items -/
def flatV : V → Bool
  | .non => true
  | .bl _ => true
  | .int _ => true
  | .str _ => true
  | _ => false
/-- == of flat values -/
def eqV : V → V → Bool
  | .non, .non => true
  | .bl a, .bl b => a == b
  | .bl a, .int b => (if a then 1 else 0) == b
  | .int a, .bl b => a == (if b then 1 else 0)
  | .int a, .int b => a == b
  | .str a, .str b => a == b
  | _, _ => false
theorem eqAt_V {A : Around} {s : Shared} {y x : V} {u v : Value} (ry : RelV y u) (rx : RelV x v) (fy : flatV y = true) (fx : flatV x = true) : SeqAt.EqAt A s u v (eqV y x) := by
  cases y with
  | non =>
    cases ry
    cases x with
    | non => cases rx; exact SeqAt.EqAt.same _
    | bl b => cases rx; exact SeqAt.EqAt.none_bool b
    | int b => obtain ⟨t, rfl⟩ := rx; exact SeqAt.EqAt.none_int b t
    | str b => obtain ⟨t, rfl⟩ := rx; exact SeqAt.EqAt.none_str b t
    | _ => exact absurd (show false = true from fx) Bool.false_ne_true
  | bl a =>
    cases ry
    cases x with
    | non => cases rx; exact SeqAt.EqAt.bool_none a
    | bl b => cases rx; exact SeqAt.EqAt.bool_bool a b
    | int b => obtain ⟨t, rfl⟩ := rx; exact SeqAt.EqAt.bool_int a b t
    | str b => obtain ⟨t, rfl⟩ := rx; exact SeqAt.EqAt.bool_str a b t
    | _ => exact absurd (show false = true from fx) Bool.false_ne_true
  | int a =>
    obtain ⟨t', rfl⟩ := ry
    cases x with
    | non => cases rx; exact SeqAt.EqAt.int_none a t'
    | bl b => cases rx; exact SeqAt.EqAt.int_bool a t' b
    | int b => obtain ⟨t, rfl⟩ := rx; exact SeqAt.EqAt.int_int a t' b t
    | str b => obtain ⟨t, rfl⟩ := rx; exact SeqAt.EqAt.int_str a t' b t
    | _ => exact absurd (show false = true from fx) Bool.false_ne_true
  | str a =>
    obtain ⟨t', rfl⟩ := ry
    cases x with
    | non => cases rx; exact SeqAt.EqAt.str_none a t'
    | bl b => cases rx; exact SeqAt.EqAt.str_bool a t' b
    | int b => obtain ⟨t, rfl⟩ := rx; exact SeqAt.EqAt.str_int a t' b t
    | str b => obtain ⟨t, rfl⟩ := rx; exact SeqAt.EqAt.str_str a t' b t
    | _ => exact absurd (show false = true from fx) Bool.false_ne_true
  | _ => exact absurd (show false = true from fy) Bool.false_ne_true
/-- the items' answers, read off the values (a value's own answer does not lean on its token) -/
def eqU (x : V) (u : Value) : Bool := match u with
  | .none => eqV .non x
  | .bool b => eqV (.bl b) x
  | .int i _ => eqV (.int i) x
  | .str z _ => eqV (.str z) x
  | _ => false
theorem eqU_of {x y : V} {u : Value} (r : RelV y u) (f : flatV y = true) : eqU x u = eqV y x := by
  cases y with
  | non => cases r; rfl
  | bl b => cases r; rfl
  | int i => obtain ⟨t, rfl⟩ := r; rfl
  | str z => obtain ⟨t, rfl⟩ := r; rfl
  | _ => exact absurd (show false = true from f) Bool.false_ne_true
theorem any_eqU {x : V} : ∀ {xs : List V} {us : List Value}, Vals xs us → xs.all flatV = true → us.any (eqU x) = xs.any fun y => eqV y x
  | _, _, .nil, _ => rfl
  | y :: xs, u :: us, .cons r t, f => by
    rw [List.all_cons, Bool.and_eq_true] at f
    rw [List.any_cons, List.any_cons, eqU_of r f.1, any_eqU t f.2]
theorem mem_eqAt {A : Around} {s : Shared} {x : V} {v : Value} (rx : RelV x v) (fx : flatV x = true) : ∀ {xs : List V} {us : List Value}, Vals xs us → xs.all flatV = true → ∀ u ∈ us, SeqAt.EqAt A s u v (eqU x u)
  | _, _, .nil, _ => fun u hu => by cases hu
  | y :: xs, u :: us, .cons r t, f => fun u' hu => by
    rw [List.all_cons, Bool.and_eq_true] at f
    rcases List.mem_cons.mp hu with rfl | hu
    · rw [eqU_of r f.1]; exact eqAt_V r rx f.1 fx
    · exact mem_eqAt rx fx t f.2 u' hu
def inV (x : V) (xs : List V) : Bool := xs.any fun y => eqV y x
/-- x in a list or tuple of flat items -/
def rIn (K : PySem.W.Frag) (neg : Bool) : R2 := fun x y H Q => ∃ p xs, y = .ref p ∧ (SqL K H p xs ∨ SqT K H p xs) ∧ flatV x = true ∧ xs.all flatV = true ∧ Q (.bl (if neg then !inV x xs else inV x xs)) H
theorem op_in_seq : OpR X (compareOp .In) (rIn X.K false) := by
  intro pins s σ H x y v u Q I rx ry h
  obtain ⟨p, xs, rfl, hq, fx, fs, q⟩ := h
  cases ry
  rcases hq with hq | hq
  · obtain ⟨its, r, pl, hz⟩ := I.list hq
    refine SeqAt.in_listAt (eqU x) pl.isList (fun w hw => mem_eqAt rx fx r fs w (by simpa using hw)) ⟨.bl _, H, I, rfl, ?_⟩
    rw [show its.toArray.any (eqU x) = its.any (eqU x) by simp, any_eqU r fs]
    exact q
  · obtain ⟨its, r, pl, hz⟩ := I.tuple hq
    refine SeqAt.in_tupleAt (eqU x) pl (fun w hw => mem_eqAt rx fx r fs w (by simpa using hw)) ⟨.bl _, H, I, rfl, ?_⟩
    rw [show its.toArray.any (eqU x) = its.any (eqU x) by simp, any_eqU r fs]
    exact q
theorem op_notIn_seq : OpR X (compareOp .NotIn) (rIn X.K true) := by
  intro pins s σ H x y v u Q I rx ry h
  obtain ⟨p, xs, rfl, hq, fx, fs, q⟩ := h
  cases ry
  rcases hq with hq | hq
  · obtain ⟨its, r, pl, hz⟩ := I.list hq
    refine SeqAt.notIn_listAt (eqU x) pl.isList (fun w hw => mem_eqAt rx fx r fs w (by simpa using hw)) ⟨.bl _, H, I, rfl, ?_⟩
    rw [show its.toArray.any (eqU x) = its.any (eqU x) by simp, any_eqU r fs]
    exact q
  · obtain ⟨its, r, pl, hz⟩ := I.tuple hq
    refine SeqAt.notIn_tupleAt (eqU x) pl (fun w hw => mem_eqAt rx fx r fs w (by simpa using hw)) ⟨.bl _, H, I, rfl, ?_⟩
    rw [show its.toArray.any (eqU x) = its.any (eqU x) by simp, any_eqU r fs]
    exact q
/-! ### len, list(x), tuple(x) of any list or tuple that is read -/
theorem call_len_seq : CallR X (.builtin "len") (fun xs H Q => ∃ p ys, xs = [.ref p] ∧ (SqL X.K H p ys ∨ SqT X.K H p ys) ∧ Q (.int ys.length) H) := by
  intro pins s σ H xs us Q I r h
  obtain ⟨p, ys, rfl, hq, q⟩ := h
  obtain ⟨u, rfl, rx⟩ := vals1 r
  cases rx
  have hn := line63
  rcases hq with hq | hq
  · obtain ⟨its, r', pl, hz⟩ := I.list hq
    have hlen := r'.length
    exact Calls.call_len_list pl.isList (by simp only [List.size_toArray] <;> omega) ⟨.int ys.length, H, I.tok _, ⟨s.toks + 1, by rw [List.size_toArray, hlen]⟩, q⟩
  · obtain ⟨its, r', pl, hz⟩ := I.tuple hq
    have hlen := r'.length
    exact len_tuple pl (by simp only [List.size_toArray] <;> omega) ⟨.int ys.length, H, I.tok _, ⟨s.toks + 1, by rw [List.size_toArray, hlen]⟩, q⟩
theorem call_len_str : CallR X (.builtin "len") (fun xs H Q => ∃ z, xs = [.str z] ∧ z.length ≤ sizeLine ∧ Q (.int z.length) H) := by
  intro pins s σ H xs us Q I r h
  obtain ⟨z, rfl, hz, q⟩ := h
  obtain ⟨u, rfl, t, rfl⟩ := vals1 r
  have hn := line63
  exact len_str (by omega) ⟨.int z.length, H, I.tok _, ⟨_, rfl⟩, q⟩
theorem call_list_of : CallR X (.type "list") (fun xs H Q => ∃ p ys, xs = [.ref p] ∧ (SqL X.K H p ys ∨ SqT X.K H p ys) ∧ ∀ l, H l = none → Q (.ref l) (upd H l (.lst ys))) := by
  intro pins s σ H xs us Q I r h
  obtain ⟨p, ys, rfl, hq, q⟩ := h
  obtain ⟨u, rfl, rx⟩ := vals1 r
  cases rx
  have fin : ∀ (its : List Value), Vals ys its → ys.length ≤ sizeLine → ∀ (h' : Heap) (c' : Nat), (∀ b o', s.heap.get? b = some o' → h'.get? b = some o') →
      h'.get? s.heap.objs.size = some { cls := .type "list", dict := none, data := .seq its.toArray c', slots := #[] } → EP X pins σ Q (.ref s.heap.objs.size) { s with heap := h' } := fun its r' hz h' c' kp e =>
    ⟨.ref s.heap.objs.size, _, I.laid (t' := s.toks) kp (Nat.le_refl _) (show ObjOk X.prog X.w _ h' _ (.lst ys) from ⟨hz, its, c', r', e⟩), rfl, q _ (I.hok.fresh (Nat.le_refl _))⟩
  rcases hq with hq | hq
  · obtain ⟨its, r', pl, hz⟩ := I.list hq
    have hlen := r'.length
    obtain ⟨o, ho, hc, n, hd⟩ := pl.isList
    exact call_list_seq p (.inl rfl) ho hc hd (fun h' c' kp e => fin its r' hz h' c' kp e) (by simp only [List.size_toArray] <;> omega)
  · obtain ⟨its, r', pl, hz⟩ := I.tuple hq
    have hlen := r'.length
    obtain ⟨o, ho, hc, n, hd⟩ := pl
    exact call_list_seq p (.inr rfl) ho hc hd (fun h' c' kp e => fin its r' hz h' c' kp e) (by simp only [List.size_toArray] <;> omega)
/-! ### the call of a builtin's method: o.m(..) -/
/-- the value is of that builtin type -/
def tyV (K : PySem.W.Frag) (T : String) (x : V) (H : Hp) : Prop := match x with
  | .str _ => T = "str"
  | .int _ => T = "int"
  | .ref p => (T = "list" ∧ ∃ xs, SqL K H p xs) ∨ (T = "tuple" ∧ ∃ o, K.lookup p = some o ∧ o.cls = .type "tuple" ∧ o.dict = none) ∨
      (T = "dict" ∧ ((∃ kvs, H p = some (.dK kvs)) ∨ ∃ kvs, H p = some (.dT kvs))) ∨ (T = "set" ∧ ∃ S n, H p = some (.set S n))
  | _ => False
theorem tyV_is {pins : List (Addr × Obj)} {σ : St} {H : Hp} {s : Shared} {T : String} {x : V} {v : Value} (I : Inv X pins σ H s) (r : RelV x v) (ty : tyV X.K T x H) :
    s.TypeIs v T ∧ ∀ a, v = .ref a → ∃ ob, s.heap.get? a = some ob ∧ ob.dict = none := by
  cases x with
  | str z =>
    obtain ⟨t, rfl⟩ := r
    cases (show T = "str" from ty)
    exact ⟨typeIs_str s z t, fun _ e => nomatch e⟩
  | int i =>
    obtain ⟨t, rfl⟩ := r
    cases (show T = "int" from ty)
    exact ⟨typeIs_int s i t, fun _ e => nomatch e⟩
  | ref p =>
    cases r
    rcases ty with ⟨rfl, xs, hq⟩ | ⟨rfl, o, hk, hc, hd⟩ | ⟨rfl, hk⟩ | ⟨rfl, S, n, hk⟩
    · obtain ⟨its, _, pl, _⟩ := I.list hq
      refine ⟨pl.isList.typeIs, fun a e => ?_⟩
      cases e
      obtain ⟨o, n, e, c, hd, _⟩ := pl
      exact ⟨o, e, hd⟩
    · refine ⟨⟨o, I.kIn p o hk, hc⟩, fun a e => ?_⟩
      cases e
      exact ⟨o, I.kIn _ o hk, hd⟩
    · have z : ∃ o, s.heap.get? p = some o ∧ o.ExactDict := by
        rcases hk with ⟨kvs, hk⟩ | ⟨kvs, hk⟩
        · obtain ⟨_, _, _, _, o, _, _, e, ex, _⟩ := I.hok p _ hk
          exact ⟨o, e, ex⟩
        · obtain ⟨_, _, _, _, o, _, _, e, ex, _⟩ := I.hok p _ hk
          exact ⟨o, e, ex⟩
      obtain ⟨o, e, ex⟩ := z
      refine ⟨⟨o, e, ex.1⟩, fun a e2 => ?_⟩
      cases e2
      exact ⟨o, e, ex.2.1⟩
    · obtain ⟨o, _, _, _, e, ex, _⟩ := I.hok p _ hk
      refine ⟨⟨o, e, ex.1⟩, fun a e2 => ?_⟩
      cases e2
      exact ⟨o, e, ex.2.1⟩
  | _ => exact False.elim ty
def tBM0 (K : PySem.W.Frag) (T : String) (r : V → List V → Hp → VK → Prop) (to : TE) : TE := fun σ H Q => to σ H fun x H1 => tyV K T x H1 ∧ r x [] H1 Q
def tBM (K : PySem.W.Frag) (T : String) (r : V → List V → Hp → VK → Prop) (to : TE) (t : TA) : TE := fun σ H Q => to σ H fun x H1 => tyV K T x H1 ∧ t σ H1 fun xs H2 => r x xs H2 Q
variable {o e : Expr} {es : List Expr} {to : TE} {t : TA} {name : Str} {apos cpos : Pos} {T id : String} {r : V → List V → Hp → VK → Prop}
theorem pe_bm0 (pa : PlainAttrs T) (slot : Slot T name id) (hty : typeOf (.builtin id) = pure (.type "method_descriptor")) (hm : MtR X id r) (ho : PE X o to)
    (hbase : attributeBase o name X.env (eval o X.env) = eval o X.env := by rfl) (hline : (apos.endLine == cpos.line) = true := by rfl) : PE X (.Call (.Attribute o name apos) [] [] cpos) (tBM0 X.K T r to) := by
  intro pins s σ H Q I h
  refine wpAny_Call_method0_late hbase hline (thn (ho pins s σ H _ I h) fun v s1 ⟨x, H1, I1, r1, ty, q1⟩ => ?_)
  obtain ⟨h1, h2⟩ := tyV_is I1 r1 ty
  exact ⟨T, id, pa, slot, hty, h1, h2, Calls.callWith_builtin rfl (PySem.evalArgs_none (hm pins s1 σ H1 x [] v [] Q I1 r1 .nil q1))⟩
theorem pe_bm (pa : PlainAttrs T) (slot : Slot T name id) (hty : typeOf (.builtin id) = pure (.type "method_descriptor")) (hm : MtR X id r) (ho : PE X o to) (ha : PA X (e :: es) t)
    (hbase : attributeBase o name X.env (eval o X.env) = eval o X.env := by rfl)
    (hfew : ((backTo cpos (starEach (e :: es) X.env)).all (fun x => !x.1) && (backToKw cpos (keywordEach [] X.env)).all (fun x => x.1.isSome)
      && decide ((e :: es).length + ([] : List Keyword).length + (if ([] : List Keyword).isEmpty then 0 else 1) < 30)) = true := by rfl)
    (hline : (apos.endLine == cpos.line) = true := by rfl) (hs : starEach (e :: es) X.env = (false, eval e X.env) :: starEach es X.env := by rfl) (hplain : (backTo cpos (starEach es X.env)).any (·.1) = false := by rfl) :
    PE X (.Call (.Attribute o name apos) (e :: es) [] cpos) (tBM X.K T r to t) := by
  intro pins s σ H Q I h
  refine wpAny_Call_method_late hbase hfew hline rfl (thn (ho pins s σ H _ I h) fun v s1 ⟨x, H1, I1, r1, ty, q1⟩ => ?_)
  obtain ⟨h1, h2⟩ := tyV_is I1 r1 ty
  refine ⟨T, id, pa, slot, hty, h1, h2, ?_⟩
  have hA := ha cpos pins s1 σ H1 _ I1 q1
  rw [hs] at hA ⊢
  refine Calls.callWith_builtin (by show (false || (backTo cpos (starEach es X.env)).any (·.1)) = false; rw [hplain] <;> rfl) (Calls.evalArgs_plain ?_)
  exact thn hA fun us s2 ⟨vs, H2, I2, r2, q2⟩ => hm pins s2 σ H2 x vs v us Q I2 r1 r2 q2
/- xs.append(e), list.index on a module's tuple .. are MtR facts of 06m -/
end
end L2

namespace L2
open PySem PySem.Spec PyProof.Rows

def MtM (X : Cx) (id : String) (r : V → List V → Hp → VK → Prop) : Prop :=
  ∀ (pins : List (Addr × Obj)) (s : Shared) (σ : St) (H : Hp) (x : V) (xs : List V) (v : Value) (us : List Value) (Q : VK), Inv X pins σ H s → RelV x v → Vals xs us → r x xs H Q →
    wpAny (model X.prog X.w) X.A (call (.builtin id) (v :: us)) (EP X pins σ Q) X.xe s

/-! ### lists of values -/
theorem Vals.one : ∀ {x : V} {us : List Value}, Vals [x] us → ∃ u, us = [u] ∧ RelV x u
  | _, _, .cons r .nil => ⟨_, rfl, r⟩
theorem Vals.zero : ∀ {us : List Value}, Vals [] us → us = []
  | _, .nil => rfl
theorem Vals.dropLast {xs : List V} {us : List Value} (h : Vals xs us) : Vals xs.dropLast us.dropLast := by
  induction h with
  | nil => exact .nil
  | cons r t ih =>
    cases t with
    | nil => exact .nil
    | cons q t' => exact .cons r ih
theorem erase_last {α : Type} (l : List α) : l.eraseIdx (l.length - 1) = l.dropLast := by
  induction l with
  | nil => rfl
  | cons a r ih =>
    cases r with
    | nil => rfl
    | cons b r =>
      have e : (a :: b :: r).length - 1 = ((b :: r).length - 1) + 1 := by
        have h1 : (a :: b :: r).length = r.length + 2 := rfl
        have h2 : (b :: r).length = r.length + 1 := rfl
        omega
      rw [e, List.eraseIdx_cons_succ, ih]
      all_goals rfl
section
variable {X : Cx} {pins : List (Addr × Obj)} {σ : St} {H : Hp} {s : Shared} {l b : Addr} {xs ys zs : List V}

/-! ### the two steps: a tracked list is rewritten, a new list is laid -/
theorem Inv.lset {its its' : List Value} {n : Nat} {f : Array Value → Array Value} {t' : Nat} (I : Inv X pins σ H s) (hH : H l = some (.lst xs))
    (e : s.heap.get? l = some { cls := .type "list", data := .seq its.toArray n }) (hf : f its.toArray = its'.toArray) (hv : Vals ys its') (hz : ys.length ≤ sizeLine) :
    Inv X pins σ (upd H l (.lst ys)) { s with heap := s.heap.update l (Obj.mapSeq f), toks := t' } := by
  have q := PySem.IsL.update e f
  rw [hf] at q
  refine I.write (x := l) (e := l) (by rw [hH]; exact trivial) (.inl rfl) (fun b' u hb hu => (Heap.get?_update_other s.heap (Obj.mapSeq f) (Ne.symm hb)).trans hu) ⟨_, q⟩ ?_
  exact ⟨hz, its', _, hv, q⟩
theorem Inv.lnew {its : List Value} {t' : Nat} (I : Inv X pins σ H s) (hv : Vals ys its) (hz : ys.length ≤ sizeLine) :
    Inv X pins σ (upd H s.heap.objs.size (.lst ys)) { s with heap := s.heap.push { cls := .type "list", data := .seq its.toArray }, toks := t' } :=
  I.laid (fun _ _ q => Heap.get?_push_of_some _ q) (Nat.le_refl _) ⟨hz, its, 0, hv, Heap.get?_push_size _ rfl⟩
theorem Inv.fresh (I : Inv X pins σ H s) : H s.heap.objs.size = none := I.hok.fresh (Nat.le_refl _)
theorem Inv.lstM (I : Inv X pins σ H s) (hH : H l = some (.lst xs)) : xs.length ≤ sizeLine ∧ ∃ (its : List Value) (n : Nat), Vals xs its ∧ xs.length = its.length ∧ s.heap.get? l = some { cls := .type "list", data := .seq its.toArray n } := by
  obtain ⟨z, its, n, r, e⟩ := I.hok l _ hH
  exact ⟨z, its, n, r, r.length, e⟩

theorem notLongL {n : Nat} (h : n ≤ sizeLine) : Builtin.List.listTooLong n = false := by
  unfold Builtin.List.listTooLong
  exact decide_eq_false (by omega)
end

section
variable {X : Cx}

/-! ### methods -/
def rAppend : V → List V → Hp → VK → Prop := fun x vs H Q => ∃ l xs y, x = .ref l ∧ vs = [y] ∧ H l = some (.lst xs) ∧ xs.length < sizeLine ∧ Q .non (upd H l (.lst (xs ++ [y])))
theorem mt_append : MtM X "list.append" rAppend := by
  intro pins s σ H x vs v us Q I rx rv h
  obtain ⟨l, xs, y, rfl, rfl, hH, hz, q⟩ := h
  cases rx
  obtain ⟨u, rfl, ru⟩ := rv.one
  obtain ⟨z, its, n, r, hl, e⟩ := I.lstM hH
  refine call_meets F.slot_list_append ⟨_, e, rfl⟩ F.entry_list_append (F.args_list_append_2 _ _) (PySem.list_append l its.toArray n u (by rw [List.size_toArray]; omega)) ⟨e, ?_⟩
  refine ⟨.non, _, I.lset (its' := its ++ [u]) hH e (by simp) (r.append (.cons ru .nil)) ?_, rfl, q⟩
  rw [List.length_append, List.length_singleton]
  omega

def rExtend : V → List V → Hp → VK → Prop := fun x vs H Q => ∃ l b xs zs, x = .ref l ∧ vs = [.ref b] ∧ H l = some (.lst xs) ∧ H b = some (.lst zs) ∧ xs.length + zs.length ≤ sizeLine ∧ Q .non (upd H l (.lst (xs ++ zs)))
theorem mt_extend : MtM X "list.extend" rExtend := by
  intro pins s σ H x vs v us Q I rx rv h
  obtain ⟨l, b, xs, zs, rfl, rfl, hH, hB, hz, q⟩ := h
  cases rx
  obtain ⟨u, rfl, ru⟩ := rv.one
  cases ru
  obtain ⟨z, its, n, r, hl, e⟩ := I.lstM hH
  obtain ⟨z2, its2, n2, r2, hl2, e2⟩ := I.lstM hB
  have hsz : its.toArray.size + its2.toArray.size ≤ sizeLine := by rw [List.size_toArray, List.size_toArray]; omega
  have hlong : ¬ (!its.toArray.isEmpty && Builtin.List.listTooLong (its.toArray.size + its2.toArray.size)) = true := by
    rw [notLongL hsz, Bool.and_false]
    exact Bool.false_ne_true
  refine call_meets F.slot_list_extend ⟨_, e, rfl⟩ F.entry_list_extend (F.args_list_extend_2 _ _)
    (AutoSeq1.list_extend_list_list_0 l its.toArray n b its2.toArray n2 hlong (by rw [List.size_toArray]; omega) (by omega)) ⟨e, e2, ?_⟩
  refine ⟨.non, _, I.lset (its' := its ++ its2) hH e (by simp) (r.append r2) ?_, rfl, q⟩
  rw [List.length_append]
  omega

def rPop : V → List V → Hp → VK → Prop := fun x vs H Q => ∃ l xs y, x = .ref l ∧ vs = [] ∧ H l = some (.lst xs) ∧ xs[xs.length - 1]? = some y ∧ Q y (upd H l (.lst xs.dropLast))
theorem mt_pop : MtM X "list.pop" rPop := by
  intro pins s σ H x vs v us Q I rx rv h
  obtain ⟨l, xs, y, rfl, rfl, hH, hy, q⟩ := h
  cases rx
  have hus := rv.zero
  subst hus
  obtain ⟨z, its, n, r, hl, e⟩ := I.lstM hH
  obtain ⟨u, hu, ru⟩ := r.get hy
  have hy' : its.toArray[its.toArray.size - 1]? = some u := by
    show its.toArray[its.length - 1]? = some u
    rw [← Array.getElem?_toList, ← hl]
    exact hu
  refine call_meets F.slot_list_pop ⟨_, e, rfl⟩ F.entry_list_pop (F.args_list_pop_1 _) (MeetsSeq.list_pop_last l its.toArray n u hy' (by rw [List.size_toArray]; omega)) ⟨e, ?_⟩
  refine ⟨y, _, I.lset (its' := its.dropLast) hH e ?_ r.dropLast ?_, ru, q⟩
  · show its.toArray.eraseIdxIfInBounds (its.toArray.size - 1) = its.dropLast.toArray
    rw [List.size_toArray, List.eraseIdxIfInBounds_toArray, erase_last]
  · rw [List.length_dropLast]
    omega

/-! ### list + list, list += list, list * int -/
def rCat : R2 := fun x y H Q => ∃ l b xs zs, x = .ref l ∧ y = .ref b ∧ H l = some (.lst xs) ∧ H b = some (.lst zs) ∧ xs.length + zs.length ≤ sizeLine ∧ ∀ p, H p = none → Q (.ref p) (upd H p (.lst (xs ++ zs)))
theorem op_cat : OpR X (binaryOp .Add) rCat := by
  intro pins s σ H x y v u Q I rx ry h
  obtain ⟨l, b, xs, zs, rfl, rfl, hH, hB, hz, q⟩ := h
  cases rx
  cases ry
  obtain ⟨z, its, n, r, hl, e⟩ := I.lstM hH
  obtain ⟨z2, its2, n2, r2, hl2, e2⟩ := I.lstM hB
  refine PySem.P.add_list e e2 ?_ (by rw [List.size_toArray, List.size_toArray]; omega)
  have ea : its.toArray ++ its2.toArray = (its ++ its2).toArray := by simp
  rw [ea]
  exact ⟨.ref _, _, I.lnew (t' := s.toks) (r.append r2) (by rw [List.length_append]; omega), rfl, q _ I.fresh⟩
/-! ### del xs[i] -/
end

/-! ### xs[a:b] = ys -/
section
variable {prog : Program} {w : World} {A : Around} {E : Value → Shared → Prop} {s : Shared}
end

section
variable {X : Cx}
end
end L2

namespace Att
open PySem PySem.W PySem.Calls PyProof.Rows

/-! ### the script -/
theorem ints_of_wellAll {P : Params} {h : Heap} : ∀ (ns : List Int) (vs : List Value), WellAll P h vs (ns.map WData.int) → IntsAre vs ns := by
  intro ns
  induction ns with
  | nil =>
    intro vs w
    rw [List.map_nil] at w
    cases w
    exact .nil
  | cons n ns ih =>
    intro vs w
    rw [List.map_cons] at w
    cases w with
    | cons a b =>
      cases a
      exact .cons _ _ (ih _ b)

theorem script_of {l : OpenLaw} {n : Nat} (hn : l.most = some n) {P : Params} {h : Heap} {args : List WData} {vals : List Value}
    (hpre : l.row.toRowW.claim.pre args = true) (hwl : WellAll P h vals args) :
    ∃ a vs ns, vals = [Value.ref a] ∧ args = [WData.list (ns.map WData.int)] ∧ h.get? a = some { cls := .type "list", data := .seq vs.toArray } ∧ IntsAre vs ns ∧ ns.length ≤ n := by
  have hsh : WShape.hasAll [] args [.list .int] = true := (pre_splitW hpre).1
  have hc : l.pre.holds [] { args := args } = true := (pre_splitW hpre).2
  obtain ⟨d, r, rfl, h1, h2⟩ := hasAllW_cons hsh
  obtain rfl := hasAllW_nil h2
  obtain ⟨xs, rfl, h3⟩ := hasW_list h1
  obtain ⟨ns, rfl⟩ := items_int h3
  have hlen : ns.length ≤ n := by
    unfold OpenLaw.pre at hc
    have h4 : (WTm.not (.lt (.lit (.int (n : Int))) (.len (.arg 0)))).holds [] { args := [.list (ns.map .int)] } = true := by
      have h4 := (holds_andW hc).1
      rw [hn] at h4
      exact h4
    have h5 := condW_of h4 (w_not (w_lt w_lit (w_len_list (w_arg rfl))))
    rw [List.length_map] at h5
    refine Nat.le_of_not_lt fun q => ?_
    have q' : (n : Int) < ((ns.length : Nat) : Int) := by omega
    first
      | (rw [decide_eq_true q'] at h5; exact absurd h5 (by decide))
      | (simp at h5; omega)
  cases hwl with
  | cons w1 w2 =>
    cases w2
    cases w1 with
    | list ho hall => exact ⟨_, _, ns, rfl, rfl, ho, ints_of_wellAll ns _ hall, hlen⟩

theorem post_true (l : OpenLaw) (args : List WData) : l.row.toRowW.claim.post args (.bool true) args = true :=
  postW_of (r := l.row.toRowW) (X := (true == true))
    (show WShape.has [] (.bool true) .bool = true by first | rfl | decide | simp [WShape.has, WShape.arms, WShape.armsAll])
    (show (WTm.eq .res (.lit (.bool true))).value [] { args := args, res := some (.bool true), after := args } = some (.bool (true == true)) from w_eq_bool (w_res rfl) w_lit) rfl

/-! ### the attachment: holds_open's last premise (the goal 'hc' behind k_head) from a wpAny of the law's body -/
/-- the same from a codeAny of the CALL (for a layer whose function contracts speak of calls) -/
theorem attach_call {l : OpenLaw} {n : Nat} {q : Program} {loose : List Str} {XP : (Str → Option Value) → Heap → Prop} {YP : World → Heap → Prop} {d : DefRec}
    (hn : l.most = some n) (hdf : d.params.defaults = [])
    (call : ∀ (w : World) (s₀ s₁ : Shared) (mg mb : Str → Option Value) (fa : Addr) (o : Obj) (pm cd doc : Value) (a : Addr) (vs : List Value) (ns : List Int),
      Ground q loose [] XP w s₀ mg mb s₁.heap → YP w s₁.heap →
      s₁.heap.get? fa = some o → o.data = .func (docDef d.name d.params d.body d.scope pm cd doc) → s₁.heap.CodeRec cd d.name → mg d.name = some (.ref fa) →
      s₁.heap.get? a = some { cls := .type "list", data := .seq vs.toArray } → IntsAre vs ns → ns.length ≤ n → s₁.gens = #[] →
      codeAny (model l.prog w) callerA (.call (.ref fa) ⟨[.ref a], []⟩) (fun r s' => r = .ok (.ret (.bool true)) ∧ OldK s₁.heap s'.heap ∧ s'.os = s₁.os ∧ AllBare s'.gens) s₁) :
    WalkO q loose XP YP l.row.toRowW d [] (fun f vs => PySem.call f vs) := by
  intro w s₀ s₁ mg mb G Y fa o pm cd doc dV kV ho hd hcd hD hmg hg args vals as hpre hlay hrd hwl hlo
  obtain rfl : dV = .none := Dflts.none hD hdf
  obtain rfl : kV = .none := Dflts.noKw hD
  obtain ⟨a, vs, ns, rfl, rfl, hobj, hints, hlen⟩ := script_of hn hpre hwl
  refine enter_call (codeAny_mono (call w s₀ s₁ mg mb fa o pm cd doc a vs ns G Y ho (fd_plain hd) hcd hmg hobj hints hlen hg) fun r s' hq => ?_)
  obtain ⟨rfl, h2, h3, h4⟩ := hq
  exact ⟨.inl ⟨.bool true, .bool true, [], rfl, fun _ => rfl, .bool true, post_true l _, fun _ => ⟨List.Pairwise.nil, fun _ hm => (nomatch hm)⟩⟩, h2, h3, h4⟩

/-! ### rules over ANY heap (no ledger) from facts about the written part K: the library's own take a ledger (News) for what they write -/
section
variable {prog : Program} {w : World} {A : Around} {E : Value → Shared → Prop} {s : Shared} {K : Frag}

/-! the whole heap as the ledger: makes every rule that writes through a ledger a rule over any heap -/
def ledger (h : Heap) (L d : Addr) : List (Addr × Obj) := (List.range h.objs.size).filterMap fun a => if a = L ∨ a = d then none else (h.get? a).map fun o => (a, o)
end
end Att

namespace L2
open PySem PySem.Spec PyProof.Rows

theorem vals_ints : ∀ {vs : List Value} {ns : List Int}, IntsAre vs ns → Vals (ns.map V.int) vs
  | _, _, .nil => .nil
  | _, _, .cons n t h => .cons ⟨t, rfl⟩ (vals_ints h)

/-- nothing is tracked but the script, known to the object (or it is an object of the module) -/
def Only (H : Hp) : Prop := ∀ b, H b = none ∨ ∃ o xs, H b = some (.frz o (.lst xs))

/-- THE HEAD: the law's promise, at the heap behind the top. F, the promise of the law's def, may use that base is part of the heap (so K.In base, base.Ns mainGlobals mg stand in Mod) -/
theorem law_call {P : Program} {w : World} {K : PySem.W.Frag} {mg mb : Str → Option Value} {CX : CXT} {k : Nat} {fa a : Addr} {fd : FuncData} {x : Str} {sp : Sp} {s₁ : Shared} {vs : List Value} {ns : List Int}
    (KX : K.In s₁.heap) (hns : s₁.heap.Ns mainGlobals mg) (hb : s₁.heap.Ns builtinsNs mb) (hbb : ∀ x : Str, x ≠ "__name__" → mb x = bootBuiltins x) (hlim : s₁.heap.NoLimit) (hg : s₁.gens = #[])
    (ha : s₁.heap.get? a = some { cls := .type "list", data := .seq vs.toArray }) (hi : IntsAre vs ns) (hl : ns.length ≤ sizeLine) (hr : Room k callerA)
    (F : ∀ base : Heap, K.In base → base.Ns mainGlobals mg → FnOk P w K mg base CX k fa fd [x] sp) (hbind : ∀ (s : Shared) (u : Value), BindsTo s fd ⟨[u], []⟩ [(x, u)])
    (hsp : ∀ H : Hp, Only H → SqL K H a (ns.map V.int) → sp [.ref a] H (fun v _ => v = .bl true) fun _ _ _ => False)
    (hCX : ∀ H e s', CX [] H s₁ (fun _ _ _ => False) e s' → False) :
    codeAny (model P w) callerA (.call (.ref fa) ⟨[.ref a], []⟩) (fun r s' => r = .ok (.ret (.bool true)) ∧ OldK s₁.heap s'.heap ∧ s'.os = s₁.os ∧ AllBare s'.gens) s₁ := by
  have rv := vals_ints hi
  have lenV := hi.length
  -- from an abstract heap in which nothing but the script may be tracked
  have core : ∀ H : Hp, Only H → SqL K H a (ns.map V.int) → HOk P w H s₁.heap → (∀ b, H b ≠ none → b = a) → (H a ≠ none → K.lookup a = none) →
      codeAny (model P w) callerA (.call (.ref fa) ⟨[.ref a], []⟩) (fun r s' => r = .ok (.ret (.bool true)) ∧ OldK s₁.heap s'.heap ∧ s'.os = s₁.os ∧ AllBare s'.gens) s₁ := by
    intro H hO hS hok hA hK
    have base_of : ∀ {b : Addr} {o : Obj}, s₁.heap.get? b = some o → H b = none → (hidT s₁.heap H).get? b = some o := fun e n => hidT_get e n
    have noA : ∀ {b : Addr} {o : Obj} {es : Array DictEntry} {ep : Nat}, s₁.heap.get? b = some o → o.data = .dict es ep → H b = none := fun {b o es ep} e d => by
      cases q : H b with
      | none => rfl
      | some u =>
        have e' : b = a := hA b (by rw [q]; simp)
        subst e'
        rw [ha] at e; cases e
        have d' : Data.seq vs.toArray _ = Data.dict es ep := d
        cases d'
    have nsK : ∀ {b : Addr} {m : Str → Option Value}, s₁.heap.Ns b m → (hidT s₁.heap H).Ns b m := fun {b m} ⟨o, es, ep, e, d, r⟩ => ⟨o, es, ep, base_of e (noA e d), d, r⟩
    have hKb : K.In (hidT s₁.heap H) := fun b o e => base_of (KX b o e) (by
      cases q : H b with
      | none => rfl
      | some u =>
        have e' : b = a := hA b (by rw [q]; simp)
        subst e'
        rw [hK (by rw [q]; simp)] at e; cases e)
    have hM : Mod K mg (hidT s₁.heap H) := ⟨hKb, nsK hns, ⟨mb, nsK hb, hbb⟩, let ⟨mc, h1, h2⟩ := hlim; ⟨mc, nsK h1, h2⟩⟩
    have e0 : Env0 P w K mg (hidT s₁.heap H) callerA [] s₁ H := ⟨rfl, hM, fun b o e => of_hidT e, Nat.le_of_eq (hidT_size _ _), trivial, fun b hb => absurd (show b ∈ ([] : List Addr) from hb) (by simp), hok, .of_eq hg⟩
    refine codeAny_mono ((F _ hKb (nsK hns)).run callerA [] s₁ H ⟨[.ref a], []⟩ [.ref a] [.ref a] _ _ hr e0 (hbind s₁ (.ref a)) (.cons rfl .nil) (hsp H hO hS)) fun r s' h => ?_
    cases r with
    | error e => exact (hCX H e s' h).elim
    | ok fl =>
      cases fl with
      | next => exact False.elim h
      | brk => exact False.elim h
      | cont => exact False.elim h
      | ret u =>
        obtain ⟨v, H', os, bare, un, hok', r', q⟩ := h
        have q' : v = .bl true := q
        subst q'
        obtain rfl : u = Value.bool true := r'
        refine ⟨rfl, OldK.of_keep fun b o e => ?_, os, bare⟩
        cases q : H b with
        | none => exact un.keep b o e q (by intro z; exact absurd (show b ∈ ([] : List Addr) from z) (by simp)) (by simp)
        | some u =>
          rcases hO b with z | ⟨ob, xs, z⟩
          · rw [q] at z; cases z
          · have z2 := un.frzs b ob _ z
            obtain ⟨e1, _⟩ := hok b _ z
            obtain ⟨e2, _⟩ := hok' b _ z2
            rw [e] at e1; cases e1
            exact e2
  cases hk : K.lookup a with
  | some o =>
    -- the script is one of the module's own objects
    have e := KX a o hk
    rw [ha] at e
    cases e
    refine core (fun _ => none) (fun _ => .inl rfl) (.inr ⟨_, vs.toArray, _, hk, rfl, rfl, rfl, by rw [List.size_toArray, lenV]; exact hl, by simpa using rv⟩) (fun b u z => by have z' : (none : Option HO) = some u := z; cases z') (fun b z => absurd rfl z) fun z => absurd rfl z
  | none =>
    refine core (fun b => if b = a then some (.frz { cls := .type "list", data := .seq vs.toArray } (.lst (ns.map V.int))) else none) (fun b => ?_) (.inl (.inr ⟨{ cls := .type "list", data := .seq vs.toArray }, if_pos rfl⟩)) (fun b u z => ?_) (fun b z => ?_) fun _ => hk
    · by_cases hb : b = a
      · exact .inr ⟨_, _, if_pos hb⟩
      · exact .inl (if_neg hb)
    · by_cases hb : b = a
      · have z' := (if_pos hb).symm.trans z
        cases z'
        subst hb
        exact ⟨ha, by rw [List.length_map]; exact hl, vs, _, rv, ha⟩
      · have z' := (if_neg hb).symm.trans z
        cases z'
    · by_cases hb : b = a
      · exact hb
      · exact absurd (if_neg hb) z
end L2

namespace L2
open PySem PySem.Spec PyProof.Rows

/-- the goal that k_head leaves (case hc), from the law's promise. F gives the function object fd (K's own) once, then the promise over every base -/
theorem walk_of {l : PySem.W.OpenLaw} {n k : Nat} {q : Program} {loose : List Str} {XP : (Str → Option Value) → Heap → Prop} {YP : World → Heap → Prop} {d : DefRec} {K : Params → PySem.W.Frag} {CX : World → CXT} {sp : World → Sp} {x : Str}
    (hn : l.most = some n) (hn2 : n ≤ sizeLine) (hdf : d.params.defaults = []) (hr : Room k callerA)
    (hY : ∀ (w : World) (h : Heap), YP w h → (K w.params).In h)
    (F : ∀ (w : World) (mg : Str → Option Value) (fa : Addr) (h : Heap), (K w.params).In h → h.Ns mainGlobals mg → mg d.name = some (.ref fa) →
      ∃ fd : FuncData, (∀ (s : Shared) (u : Value), BindsTo s fd ⟨[u], []⟩ [(x, u)]) ∧
        ∀ base : Heap, (K w.params).In base → base.Ns mainGlobals mg → FnOk l.prog w (K w.params) mg base (CX w) k fa fd [x] (sp w))
    (hsp : ∀ (w : World) (H : Hp) (a : Addr) (ns : List Int), ns.length ≤ n → Only H → SqL (K w.params) H a (ns.map V.int) → sp w [.ref a] H (fun v _ => v = .bl true) fun _ _ _ => False)
    (hCX : ∀ (w : World) (H : Hp) (s : Shared) (e : Value) (s' : Shared), CX w [] H s (fun _ _ _ => False) e s' → False) :
    PySem.W.WalkO q loose XP YP l.row.toRowW d [] (fun f vs => PySem.call f vs) := by
  refine Att.attach_call hn hdf fun w s₀ s₁ mg mb fa o pm cd doc a vs ns G Y ho hd hcd hmg hobj hints hlen hg => ?_
  have KX := hY w _ Y
  obtain ⟨fd, hb, hF⟩ := F w mg fa _ KX G.T.g hmg
  exact law_call KX G.T.g G.T.b G.T.builtins G.T.nolimit hg hobj hints (Nat.le_trans hlen hn2) hr hF hb (fun H hO hS => hsp w H a ns hlen hO hS) fun H e s' => hCX w H s₁ e s'
end L2

/- THE LAST THEOREM (shape; LID, My.* are yours):
   My.Adr: a structure of the addresses that your layer names (classes, functions); My.Txt K t: a structure (Prop) of the equations over K;
   My.txt_mk : {K} {implicit addresses ..} (e1 : nsIn K mainGlobals "law" = some (some (.ref f))) (e2 : K.lookup f = some ⟨oc, od, .func (fnOf "law" "law" params body scope dV kV doc pm an cdv ct), sl⟩) (e3 : codeIn K cdv "law" = true) .. : ∃ t, My.Txt K t

set_option maxRecDepth 100000 in
set_option maxHeartbeats 0 in
theorem PySem.Challenge.cw_LID_holds : PySem.Challenge.rw_LID.Holds := by
  w_on; o_law; k_head; (case hw => w_witness2)
  k_fill
  refine L2.walk_of (l := PySem.Challenge.rw_LID) (n := 63) (k := 40) (x := "script") (CX := fun w => ..) (sp := fun _ => My.sp_law) rfl (by decide) rfl ⟨rfl, by decide, by decide⟩ (fun w h Y => PySem.W.kIn_of Y) ?F ?S ?C
  case F =>
    intro w mg fa h KX G hmg
    have T : ∃ t, My.Txt (L2.KOf KX) t := by
      dsimp only [L2.KOf]                          -- K must stand as «<heap const> w.params» for k_is
      refine' My.txt_mk ?e1 ?e2 ?e3 ..
      (case e1 => PySem.W.k_is)                    -- in the order: a name -> its address -> its object -> its parts
      (case e2 => PySem.W.k_is)
      ..
    obtain ⟨t, T⟩ := T
    have e0 := hmg.symm.trans (PySem.W.mg_of KX G T.law)
    cases e0                                       -- fa is the law's own address
    exact ⟨_, fun s u => .of_eq rfl, fun base kb nb => My.law_fn T kb nb⟩     -- if «.of_eq rfl» comes too early: refine' ⟨_, ?b, fun base kb nb => My.law_fn T kb nb⟩; exact fun s u => .of_eq rfl
  case S => exact fun w H a ns hl hO hS => ..
  case C => exact ..
(the tactic k_is has no namespace: write k_is) -/

/-! SHORT WORDS over the layer: a def of the text, its body, what a loop and a test want. -/
namespace L2
open PySem PySem.Spec PyProof.Rows

/-! ### the text by places -/
def defArgs (s : Stmt) : Arguments := match s with
  | .FunctionDef _ a _ _ _ _ _ _ _ _ => a
  | _ => { posonlyargs := [], args := [], vararg := none, kwonlyargs := [], kw_defaults := [], kwarg := none, defaults := [] }
def defBody (s : Stmt) : List Stmt := match s with
  | .FunctionDef _ _ b _ _ _ _ _ _ _ => b
  | _ => []
def defScope (s : Stmt) : Scope := match s with
  | .FunctionDef _ _ _ _ _ _ sc _ _ _ => sc
  | _ => { kind := .function, names := [], isGenerator := false, isCoroutine := false }

/-! ### no exception leaves a def -/
abbrev CX0 : CXT := fun _ _ _ _ _ _ => False
abbrev E0 : XK := fun _ _ _ => False
theorem pass0 {X : Cx} : Passes CX0 X E0 := fun _ _ _ _ _ _ _ h => h.elim

/-! ### a def (or method) of the text as it stands behind the top -/
structure Fun (K : PySem.W.Frag) (x qual : Str) (st : Stmt) (f : Addr) (fd : FuncData) : Prop where
  ex : ∃ (oc : Value) (od : Option Addr) (kV doc pm : Value) (an : Option Addr) (cdv ct : Value) (osl : Array (Option Value)),
    fd = PySem.W.fnOf x qual (defArgs st) (defBody st) (defScope st) .none kV doc pm an cdv ct ∧ K.lookup f = some ⟨oc, od, .func fd, osl⟩ ∧ PySem.W.codeIn K cdv qual = true
  kp : PySem.W.keepIn K (.ref f) = true
section
variable {P : Program} {w : World} {K : PySem.W.Frag} {mg : Str → Option Value} {base : Heap}
/-- THE RULE for a def: its body as a term of rules, and the reading of that term -/
theorem Fun.ok {x qual : Str} {st : Stmt} {f : Addr} {fd : FuncData} {N ps : List Str} {k : Nat} {sp : Sp} (F : Fun K x qual st f fd) (S : FnScope N ps (defScope st)) (len : ∀ vs H Q E, sp vs H Q E → vs.length = ps.length)
    (hbody : ∀ (cdv : Value) (A : Around) (outer : List Env) (s : Shared) (H : Hp) (vs : List V) (Q : VK) (E : XK), Room k (A.deeper (envOfC qual (defScope st) s.heap.objs.size f cdv)) → sp vs H Q E →
      ∃ t, PSs (cxOf CX0 P w K mg base N qual (defScope st) f cdv A outer s H E).nox (defBody st) t ∧ t { nx := fun _ H' => Q .non H', rt := Q } (start N vs) H) : FnOk P w K mg base CX0 (k + 1) f fd ps sp := by
  obtain ⟨oc, od, kV, doc, pm, an, cdv, ct, osl, rfl, lk, hcd⟩ := F.ex
  refine fn_of lk hcd S len fun A outer s H vs Q E hr hsp => ?_
  obtain ⟨t, h, q⟩ := hbody cdv A outer s H vs Q E hr hsp
  exact ⟨t, h.nox, q⟩
/-- how its arguments bind (no defaults): h is «fun _ _ _ _ _ _ us hl => match us, hl with | [_, _], _ => rfl», one _ a parameter -/
theorem Fun.binds {x qual : Str} {st : Stmt} {f : Addr} {fd : FuncData} {ps : List Str} (F : Fun K x qual st f fd)
    (h : ∀ (kV doc pm : Value) (an : Option Addr) (cdv ct : Value) (us : List Value), us.length = ps.length → bindArgs (PySem.W.fnOf x qual (defArgs st) (defBody st) (defScope st) .none kV doc pm an cdv ct) ⟨us, []⟩ = pure (ps.zip us)) : Binds K fd ps [] := by
  obtain ⟨oc, od, kV, doc, pm, an, cdv, ct, osl, rfl, lk, hcd⟩ := F.ex
  exact .all (h kV doc pm an cdv ct)
theorem fun_mk {x qual : Str} {st : Stmt} {f : Addr} {oc : Value} {od an : Option Addr} {osl : Array (Option Value)} {kV doc pm cdv ct : Value} (l : K.lookup f = some ⟨oc, od, .func (PySem.W.fnOf x qual (defArgs st) (defBody st) (defScope st) .none kV doc pm an cdv ct), osl⟩)
    (c : PySem.W.codeIn K cdv qual = true) (k : PySem.W.keepIn K (.ref f) = true) : Fun K x qual st f (PySem.W.fnOf x qual (defArgs st) (defBody st) (defScope st) .none kV doc pm an cdv ct) := ⟨⟨oc, od, kV, doc, pm, an, cdv, ct, osl, rfl, l, c⟩, k⟩
end
theorem hu_of {A : Around} {k : Nat} (hr : Room k A) : A.units + 1 < cLine := Nat.lt_of_le_of_lt (Nat.add_le_add_left (by decide : 1 ≤ 64) _) hr.units
/-! ### expressions in short: the name that stands in the i-th slot -/
section
variable {X : Cx}
theorem pv (i : Nat) {x : Str} {pos : Pos} (hN : X.N[i]? = some x := by rfl) (hv : Vis X.env.scope x := by first | exact Or.inl rfl | exact Or.inr (Or.inl rfl) | exact Or.inr (Or.inr rfl)) (hd : (x == ("__debug__" : Str)) = false := by decide)
    (hcd : (x == ("__classdict__" : Str)) = false := by decide) : PE X (.Name x pos) (tVar i) := pe_var hN hv hd hcd
end

/-! ### tests -/
/-! ### heaps -/
/-- all that was tracked is as it was -/
def Same (H H' : Hp) : Prop := ∀ b o, H b = some o → H' b = some o
theorem Same.refl (H : Hp) : Same H H := fun _ _ h => h
theorem Same.trans {H H1 H2 : Hp} (a : Same H H1) (b : Same H1 H2) : Same H H2 := fun c o h => b c o (a c o h)
theorem Same.free {H H' : Hp} (e : Same H H') {l : Addr} (h : H' l = Option.none) : H l = Option.none := by
  cases q : H l with
  | none => rfl
  | some o =>
    rw [e l o q] at h
    cases h
/-! ### a dict's pairs: keys that differ -/
section
variable {κ : Type} [DecidableEq κ]
end
end L2
set_option maxHeartbeats 4000000
namespace L2
open PySem PySem.Spec PyProof.Rows

/-! ### what a block closes over -/
def clOf (env : Env) (names : List (Str × NameKind)) : List (Str × Addr) :=
  names.foldl (fun cs y => if y.2 == NameKind.free then (y.1, (env.cells.lookup y.1).getD 0) :: cs else cs) []
theorem clFold {env : Env} : ∀ (names : List (Str × NameKind)) (cs : List (Str × Addr)), (∀ y ∈ names, y.2 = .free → ∃ c, env.cells.lookup y.1 = some c) →
    (forIn names cs fun (y : Str × NameKind) (r : List (Str × Addr)) => (if y.2 == NameKind.free then (do let a ← cellOf env y.1; pure (ForInStep.yield ((y.1, a) :: r))) else pure (ForInStep.yield r) : Sem (ForInStep (List (Str × Addr))))) =
      pure (names.foldl (fun cs y => if y.2 == NameKind.free then (y.1, (env.cells.lookup y.1).getD 0) :: cs else cs) cs)
  | [], cs, _ => rfl
  | (n, k) :: r, cs, h => by
    have ih := fun cs' => clFold (env := env) r cs' fun y hy => h y (List.mem_cons_of_mem _ hy)
    rw [List.forIn_cons, List.foldl_cons]
    by_cases hk : k = .free
    · subst hk
      obtain ⟨c, hc⟩ := h (n, .free) List.mem_cons_self rfl
      have e : cellOf env n = pure c := by unfold cellOf; rw [hc]
      simp only [beq_self_eq_true, if_true, e, pure_bind, hc, Option.getD_some]
      exact ih _
    · have hb : (k == NameKind.free) = false := by simpa using hk
      simp only [hb, Bool.false_eq_true, if_false, pure_bind]
      exact ih _
theorem closure_of {scope : Scope} {env : Env} (h : ∀ y ∈ scope.names, y.2 = .free → ∃ c, env.cells.lookup y.1 = some c) : closureFor scope env = pure (clOf env scope.names) := by
  unfold closureFor
  have e := clFold (env := env) scope.names [] h
  simp only [] at e ⊢
  refine Eq.trans ?_ (congrArg (fun m : Sem (List (Str × Addr)) => m >>= fun cs => pure cs) e)
  rfl
theorem cl_get {env : Env} {x : Str} {c : Addr} : ∀ (names : List (Str × NameKind)) (cs : List (Str × Addr)), (∀ y ∈ names, y.2 = .free → ∃ c, env.cells.lookup y.1 = some c) →
    (names.foldl (fun cs y => if y.2 == NameKind.free then (y.1, (env.cells.lookup y.1).getD 0) :: cs else cs) cs).lookup x = some c → cs.lookup x = some c ∨ env.cells.lookup x = some c
  | [], _, _, e => .inl e
  | (n, k) :: r, cs, h, e => by
    rw [List.foldl_cons] at e
    have ih := cl_get r _ (fun y hy => h y (List.mem_cons_of_mem _ hy)) e
    rcases ih with q | q
    · by_cases hk : k = .free
      · subst hk
        obtain ⟨c', hc⟩ := h (n, .free) List.mem_cons_self rfl
        simp only [beq_self_eq_true, if_true, hc, Option.getD_some, List.lookup_cons] at q
        cases hx : x == n with
        | true =>
          rw [hx] at q
          have : x = n := by simpa using hx
          subst this
          simp only [Option.some.injEq] at q
          subst q
          exact .inr hc
        | false =>
          rw [hx] at q
          exact .inl q
      · have hb : (k == NameKind.free) = false := by simpa using hk
        simp only [hb, Bool.false_eq_true, if_false] at q
        exact .inl q
    · exact .inr q
theorem cl_has {env : Env} {x : Str} : ∀ (names : List (Str × NameKind)) (cs : List (Str × Addr)), ((x, NameKind.free) ∈ names ∨ ∃ c, cs.lookup x = some c) →
    ∃ c, (names.foldl (fun cs y => if y.2 == NameKind.free then (y.1, (env.cells.lookup y.1).getD 0) :: cs else cs) cs).lookup x = some c
  | [], _, e => by rcases e with e | e; exact absurd e (by simp); exact e
  | (n, k) :: r, cs, e => by
    rw [List.foldl_cons]
    refine cl_has r _ ?_
    rcases e with e | ⟨c, e⟩
    · rcases List.mem_cons.mp e with z | z
      · cases z
        right
        simp only [beq_self_eq_true, if_true, List.lookup_cons]
        exact ⟨_, rfl⟩
      · exact .inl z
    · right
      by_cases hk : k = .free
      · subst hk
        simp only [beq_self_eq_true, if_true, List.lookup_cons]
        cases hx : x == n with
        | true => exact ⟨_, rfl⟩
        | false => exact ⟨c, e⟩
      · have hb : (k == NameKind.free) = false := by simpa using hk
        simp only [hb, Bool.false_eq_true, if_false]
        exact ⟨c, e⟩
/-- a name that the block holds as a cell or as free was free there -/
theorem relabel_free {env : Env} {x : Str} : ∀ {names : List (Str × NameKind)}, (∀ y ∈ names, y.2 ≠ .cell) →
    ((names.map fun (n, k) => if (k == NameKind.free && env.scope.kind == .function && env.kindOf n == some .cell) then (n, NameKind.cell) else (n, k)).lookup x = some .cell ∨
     (names.map fun (n, k) => if (k == NameKind.free && env.scope.kind == .function && env.kindOf n == some .cell) then (n, NameKind.cell) else (n, k)).lookup x = some .free) → (x, NameKind.free) ∈ names
  | [], _, h => by simp at h
  | (n, k) :: r, hc, h => by
    have ih := @relabel_free env x r fun y hy => hc y (List.mem_cons_of_mem _ hy)
    have hk := hc (n, k) List.mem_cons_self
    simp only [List.map_cons] at h
    by_cases cc : (k == NameKind.free && env.scope.kind == .function && env.kindOf n == some .cell) = true
    · rw [if_pos cc] at h
      have kf : k = .free := by
        simp only [Bool.and_eq_true, beq_iff_eq] at cc
        exact cc.1.1
      subst kf
      simp only [List.lookup_cons] at h
      cases hx : x == n with
      | true =>
        have : x = n := by simpa using hx
        subst this
        exact List.mem_cons_self
      | false => rw [hx] at h; exact List.mem_cons_of_mem _ (ih h)
    · rw [if_neg cc] at h
      simp only [List.lookup_cons] at h
      cases hx : x == n with
      | true =>
        rw [hx] at h
        have : x = n := by simpa using hx
        subst this
        rcases h with h | h
        · simp only [Option.some.injEq] at h
          exact absurd h hk
        · simp only [Option.some.injEq] at h
          subst h
          exact List.mem_cons_self
      | false => rw [hx] at h; exact List.mem_cons_of_mem _ (ih h)

/-- the tests of a clause, as one tree -/
abbrev testsT (ifs : List Expr) (env : Env) : Sem Bool := forIn ifs true fun c r =>
  if r = true then do
    let ok ← isTrue c env (eval c env)
    pure (ForInStep.yield ok)
  else pure (ForInStep.yield r)
/-! ### the tests of a clause -/
def PIfs (X : Cx) (ifs : List Expr) (t : TT) : Prop :=
  ∀ (pins : List (Addr × Obj)) (s : Shared) (σ : St) (H : Hp) (Q : Bool → Hp → Prop), Inv X pins σ H s → t σ H Q →
    wpAny (model X.prog X.w) X.A (testsT ifs X.env) (TP X pins σ Q) X.xe s
def tYes : TT := fun _ H Q => Q true H
theorem pf_nil {X : Cx} : PIfs X [] tYes := fun _ _ _ H _ I h => wpAny_tests_nil ⟨H, I, h⟩
theorem pf_one {X : Cx} {c : Expr} {t : TT} (h : PT X c t) : PIfs X [c] t := fun pins s σ H Q I q => wpAny_tests_one (h pins s σ H Q I q)

abbrev Nope : Value → Shared → Prop := fun _ _ => False
/-- the loop of a comprehension, with the step ahead of the store; nothing is raised -/
theorem comp_loop {prog : Program} {w : World} {A : Around} {R : Result → Shared → Prop} {s0 : Shared} {elt target iter : Expr} {ifs : List Expr} {scope : Scope} {pos : Pos} {it acc : Value} {env : Env} (W : Nat → Shared → Prop)
    (one : ∀ k t, W k t → wpAny (model prog w) A (pyNext it) (fun r t1 => match r with
      | none => R (.ok .next) t1
      | some v => wpAny (model prog w) A (letOwnedTupleGo target it v) (fun _ t2 => wpAny (model prog w) A (assign target env v) (fun _ t3 => wpAny (model prog w) A (testsT ifs env) (fun ok t4 =>
          if ok = true then wpAny (model prog w) A (eval elt env) (fun x t5 => wpAny (model prog w) A (call (.builtin "list.append") [acc, x]) (fun _ t6 => ∃ j, j < k ∧ W j t6) Nope t5) Nope t4
          else ∃ j, j < k ∧ W j t4) Nope t3) Nope t2) Nope t1) Nope t)
    (k0 : Nat) (h0 : W k0 s0) : codeAny (model prog w) A (.compLoop (.ListComp elt [⟨target, iter, ifs, 0⟩] scope pos) 0 it acc env) R s0 := by
  refine codeAny_loop rfl W (fun k t hW => ?_) k0 h0
  refine wpAny_noted (m := compTurn (.ListComp elt [⟨target, iter, ifs, 0⟩] scope pos) 0 it acc env) ?_
  have no : ∀ {P : Prop} {e : Value} {t : Shared}, Nope e t → P := fun z => z.elim
  rw [compTurn_list]
  refine wpAny_bind (wpAny_standAt (wpAny_bind (wpAny_mono (one k t hW) (fun r t1 q1 => ?_) fun _ _ => no)))
  match r with
  | none => exact wpAny_pure q1
  | some v =>
    refine wpAny_bind (wpAny_mono q1 (fun _ t2 q2 => wpAny_bind (wpAny_mono q2 (fun _ t3 q3 => wpAny_bind (wpAny_mono q3 (fun ok t4 q4 => ?_) fun _ _ => no)) fun _ _ => no)) fun _ _ => no)
    match ok with
    | false => exact wpAny_pure ⟨rfl, q4⟩
    | true =>
      rw [if_pos rfl] at q4
      refine wpAny_bind (wpAny_bind (wpAny_mono q4 (fun x t5 q5 => wpAny_bind (wpAny_mono q5 (fun _ t6 q6 => ?_) fun _ _ => no)) fun _ _ => no))
      exact wpAny_pure (wpAny_pure ⟨rfl, q6⟩)

/-! ### the block of a comprehension -/
/-- the block's names' values at its start: none, or those of the def's names -/
def entV (ix : List (Option Nat)) (σ : St) : St := ix.map fun o => o.bind fun j => σ[j]?.join
theorem entV_get {ix : List (Option Nat)} {σ : St} {i : Nat} {v : V} (h : (entV ix σ)[i]? = some (some v)) : ∃ j, ix[i]? = some (some j) ∧ σ[j]? = some (some v) := by
  unfold entV at h
  rw [List.getElem?_map] at h
  cases e : ix[i]? with
  | none => rw [e] at h; cases h
  | some o =>
    rw [e] at h
    cases o with
    | none => cases h
    | some j =>
      have h : some (σ[j]?.join) = some (some v) := h
      refine ⟨j, rfl, ?_⟩
      cases q : σ[j]? with
      | none => rw [q] at h; cases h
      | some z => rw [q] at h; cases h; rfl
/-- N': the block's names; ix: for each of them where it stands among the def's names (or none: a target) -/
def compOk (N : List Str) (sc scope : Scope) (N' : List Str) (ix : List (Option Nat)) : Bool :=
  ix.length == N'.length && (ix.zip N').all (fun p => match p.1 with | none => true | some j => N[j]? == some p.2 && scope.names.lookup p.2 == some NameKind.free) &&
  scope.names.all (fun y => y.2 != NameKind.cell && (y.2 != NameKind.free || sc.names.lookup y.1 == some NameKind.cell || sc.names.lookup y.1 == some NameKind.free) && (y.2 != NameKind.local || scope.names.lookup y.1 == some NameKind.local)) &&
  scope.kind == ScopeKind.function
structure CompOk (N : List Str) (sc scope : Scope) (N' : List Str) (ix : List (Option Nat)) : Prop where
  len : ix.length = N'.length
  at_ : ∀ (i j : Nat) (x : Str), ix[i]? = some (some j) → N'[i]? = some x → N[j]? = some x ∧ scope.names.lookup x = some .free
  nocell : ∀ y ∈ scope.names, y.2 ≠ .cell
  free : ∀ y ∈ scope.names, y.2 = .free → sc.names.lookup y.1 = some .cell ∨ sc.names.lookup y.1 = some .free
  loc : ∀ y ∈ scope.names, y.2 = .local → scope.names.lookup y.1 = some .local
  kind : scope.kind = .function
theorem CompOk.of {N : List Str} {sc scope : Scope} {N' : List Str} {ix : List (Option Nat)} (h : compOk N sc scope N' ix = true) : CompOk N sc scope N' ix := by
  unfold compOk at h
  simp only [Bool.and_eq_true, beq_iff_eq, List.all_eq_true] at h
  obtain ⟨⟨⟨h1, h2⟩, h3⟩, h4⟩ := h
  refine ⟨h1, fun i j x a b => ?_, fun y hy e => ?_, fun y hy e => ?_, fun y hy e => ?_, h4⟩
  · have hm : (some j, x) ∈ ix.zip N' := List.mem_of_getElem? (i := i) (by rw [List.getElem?_zip_eq_some]; exact ⟨a, b⟩)
    have q := h2 _ hm
    simp only [Bool.and_eq_true, beq_iff_eq] at q
    exact q
  · have q := h3 y hy
    simp only [Bool.and_eq_true, bne_iff_ne, ne_eq] at q
    exact q.1.1 e
  · have q := (h3 y hy).1.2
    rw [e] at q
    simpa using q
  · have q := (h3 y hy).2
    rw [e] at q
    simpa using q

/-- the context of the block: its frame at C, entered at s₂, H₂, its iterator's records fp -/
def compCx (X : Cx) (N' : List Str) (scope : Scope) (C : Addr) (s₂ : Shared) (H₂ : Hp) (fp : List Addr) : Cx where
  prog := X.prog
  w := X.w
  K := X.K
  mg := X.mg
  base := X.base
  A := X.A
  N := N'
  s₀ := s₂
  H₀ := H₂
  env := compEnvC scope (clOf X.env scope.names) C X.env
  outer := X.stack
  stack := X.stack
  ex := fp
  fn := fun _ => false
  calm := X.calm
  pn := []
  xe := fun _ _ => False
section
variable {X : Cx} {N' : List Str} {ix : List (Option Nat)} {scope : Scope} {pins : List (Addr × Obj)} {σ : St} {H₂ : Hp} {s₂ : Shared} {fp : List Addr} {C : Addr}
theorem CompOk.cells (S : CompOk X.N X.env.scope scope N' ix) (I : Inv X pins σ H₂ s₂) : ∀ y ∈ scope.names, y.2 = .free → ∃ c, X.env.cells.lookup y.1 = some c := fun y hy e => I.ok.has y.1 (S.free y hy e)
theorem CompOk.get (S : CompOk X.N X.env.scope scope N' ix) (I : Inv X pins σ H₂ s₂) {x : Str} {c : Addr} (h : (clOf X.env scope.names).lookup x = some c) : X.env.cells.lookup x = some c := by
  rcases cl_get scope.names [] (S.cells I) h with q | q
  · exact absurd q (by simp)
  · exact q
theorem compCx_ok (S : CompOk X.N X.env.scope scope N' ix) (I : Inv X pins σ H₂ s₂) (hf : ∀ b ∈ fp, FpOk X pins H₂ b) (hC : s₂.heap.objs.size ≤ C) (hfC : ∀ b ∈ fp, b < s₂.heap.objs.size) : (compCx X N' scope C s₂ H₂ fp).Ok where
  mod := I.ok.mod
  kind := S.kind
  glob := I.ok.glob
  blt := I.ok.blt
  above := hC
  inj := fun x y c a b => I.ok.inj x y c (S.get I a) (S.get I b)
  has := fun x h => cl_has scope.names [] (.inl (relabel_free S.nocell h))
  cab := fun x c h => by cases h
  hd := I.ok.hd
  frames := I.ok.frames
  stk := .inl rfl
  exf := fun b hb => ⟨Nat.ne_of_lt (Nat.lt_of_lt_of_le (hfC b hb) hC), fun x c e => (hf b hb).2.2.2.2.1 x c (S.get I e)⟩
  bs := I.bs
  bsz := Nat.le_trans I.ok.bsz I.sz
  noex := fun b o e hb => by
    rcases (hf b hb).2.2.2.1 with z | z
    · exact I.ok.noex b o e z
    · exact absurd (Nat.lt_of_lt_of_le (Heap.lt_size e) (Nat.le_trans I.ok.bsz z)) (Nat.lt_irrefl _)
  exfs := fun b hb hm => by
    rcases List.mem_cons.mp (I.stkSub b hm) with z | z
    · exact (hf b hb).2.1 z
    · exact (hf b hb).2.2.1 z
  funs := I.stack
  frf := I.stkFree
/-- the block is entered: a list D and its frame C are laid, both untracked -/
theorem comp_start (S : CompOk X.N X.env.scope scope N' ix) (I : Inv X pins σ H₂ s₂) (hf : ∀ b ∈ fp, FpOk X pins H₂ b) (hfC : ∀ b ∈ fp, b < s₂.heap.objs.size) {D : Addr} {h₁ : Heap} {tk : Nat} {m : Str → Option Value} {ob : Obj}
    (hC : s₂.heap.objs.size ≤ C) (hD : s₂.heap.objs.size ≤ D) (hDC : D ≠ C) (old : ∀ b o, s₂.heap.get? b = some o → h₁.get? b = some o) (hn : h₁.Ns C m) (hob : h₁.get? D = some ob) (hd : ∀ v, ob.data ≠ .cell v) :
    Inv (compCx X N' scope C s₂ H₂ fp) [(D, ob)] (entV ix σ) H₂ { s₂ with heap := h₁, toks := tk } := by
  have fr : ∀ a, s₂.heap.objs.size ≤ a → H₂ a = none := fun a ha => I.hok.fresh ha
  have cOf : ∀ x c, (clOf X.env scope.names).lookup x = some c → X.env.cells.lookup x = some c := fun x c e => S.get I e
  refine ⟨compCx_ok S I hf hC hfC, rfl, I.bare, Un.kept old, ⟨m, hn, fun i x v e1 e2 e3 => ?_⟩, fun x c e => ?_, fr C hC, fun x c e => I.freeC x c (cOf x c e), fun p hp => ?_, I.hok.kept old, ?_⟩
  · obtain ⟨j, q1, q2⟩ := entV_get e2
    obtain ⟨n1, n2⟩ := S.at_ i j x q1 e1
    have hm : (x, NameKind.free) ∈ scope.names := PySem.mem_of_lookup n2
    have hv : Vis X.env.scope x := by
      rcases S.free _ hm rfl with z | z
      · exact .inr (.inl z)
      · exact .inr (.inr z)
    obtain ⟨m0, _, hl⟩ := I.loc
    obtain ⟨u, r, l⟩ := hl j x v n1 q2 hv
    refine ⟨u, r, ?_⟩
    have hne : ¬ X.env.kindOf x = some .local := fun z => by
      have z : X.env.scope.names.lookup x = some .local := z
      rcases S.free _ hm rfl with y | y
      · rw [y] at z; cases z
      · rw [y] at z; cases z
    rcases l with ⟨k, _⟩ | ⟨k, c, e, z⟩
    · exact absurd k hne
    · obtain ⟨c', hc'⟩ := cl_has (env := X.env) (x := x) scope.names [] (.inl hm)
      have hc'' := cOf x c' hc'
      rw [e] at hc''
      cases hc''
      have kk : (compCx X N' scope C s₂ H₂ fp).env.kindOf x = some .cell ∨ (compCx X N' scope C s₂ H₂ fp).env.kindOf x = some .free := by
        rcases e3 with y | y | y
        · exfalso
          have : ∀ {names : List (Str × NameKind)}, names.lookup x = some .free →
            (names.map fun (n, k) => if (k == NameKind.free && X.env.scope.kind == .function && X.env.kindOf n == some .cell) then (n, NameKind.cell) else (n, k)).lookup x = some .local → False := by
            intro names
            induction names with
            | nil => intro a; simp at a
            | cons p r ih =>
              obtain ⟨n, k⟩ := p
              intro a b
              simp only [List.map_cons] at b
              simp only [List.lookup_cons] at a
              cases hx : x == n with
              | true =>
                rw [hx] at a
                simp only [Option.some.injEq] at a
                subst a
                split at b
                · simp [List.lookup_cons, hx] at b
                · simp [List.lookup_cons, hx] at b
              | false =>
                rw [hx] at a
                split at b
                · simp only [List.lookup_cons, hx] at b; exact ih a b
                · simp only [List.lookup_cons, hx] at b; exact ih a b
          exact this n2 y
        · exact .inl y
        · exact .inr y
      obtain ⟨oc, ho, hod⟩ := z
      exact .inr ⟨kk, c, hc', oc, old _ _ ho, hod⟩
  · obtain ⟨v, o, ho, hod⟩ := I.cell x c (cOf x c e)
    exact ⟨v, o, old _ _ ho, hod⟩
  · have hp : p ∈ [(D, ob)] := hp
    have e : p = (D, ob) := by simpa using hp
    subst e
    refine ⟨hob, fr D hD, hDC, fun hb => ?_, hd⟩
    have hb : D ∈ frs X.stack := hb
    rcases List.mem_cons.mp (I.stkSub D hb) with z | z
    · exact absurd I.lt (by rw [← z]; exact Nat.not_lt.mpr hD)
    · exact I.nofs hD z
  · show (entV ix σ).length = N'.length
    unfold entV
    rw [List.length_map, S.len]
/-- the block is left: the list is tracked -/
theorem comp_leave (I : Inv X pins σ H₂ s₂) (hf : ∀ b ∈ fp, FpOk X pins H₂ b) {pins' : List (Addr × Obj)} {σ' : St} {H' : Hp} {s' : Shared} {D : Addr} {ys : List V} {its : List Value} (hC : s₂.heap.objs.size ≤ C) (hD : s₂.heap.objs.size ≤ D)
    (J : Inv (compCx X N' scope C s₂ H₂ fp) pins' σ' H' s') (hn : H' D = none) (hl : s'.heap.PlainList D its.toArray) (r : Vals ys its) (hz : ys.length ≤ sizeLine) : Inv X pins σ (upd H' D (.lst ys)) s' := by
  have sb : Un (frs X.stack) fp H₂ H' s₂.heap s'.heap := J.base
  have nD : ∀ b u, H' b = some u → b ≠ D := fun b u e => ne_of_none e hn
  refine I.call' (ch := fp) J.os ⟨sb.keep, sb.slot, fun b o e n hx => ?_, sb.there, fun b xs e => ?_, fun b o u e => ?_, fun b ps e => ?_⟩ (fun b u e => ?_) J.bare (fun b hb => ?_)
  · rw [upd_ne (Nat.ne_of_lt (Nat.lt_of_lt_of_le (Heap.lt_size e) hD))]
    exact sb.free b o e n hx
  · have q := sb.tups b xs e
    rw [upd_ne (nD b _ q)]; exact q
  · have q := sb.frzs b o u e
    rw [upd_ne (nD b _ q)]; exact q
  · obtain ⟨more, q⟩ := sb.tbls b ps e
    exact ⟨more, by rw [upd_ne (nD b _ q)]; exact q⟩
  · by_cases hb : b = D
    · subst hb
      rw [upd_same] at e
      cases e
      obtain ⟨n, hg⟩ := hl
      exact ⟨hz, its, n, r, hg⟩
    · rw [upd_ne hb] at e
      exact (J.hok b u e).stay (fun c v _ q => q) (fun c q => by rw [upd_ne (nD c _ q)]; exact q) fun c xs q => by rw [upd_ne (nD c _ q)]; exact q
  · obtain ⟨_, f1, _, f3, f4, f5⟩ := hf b hb
    exact ⟨f3, f1, f4, f5⟩
end
end L2
namespace L2
open PySem PySem.Spec PyProof.Rows

/-- a comprehension: W is what holds between two turns, ys the items so far -/
def CompW (J : It) (g : TG) (tc : TT) (te : TE) (Kf : List V → Hp → Prop) (σ0 : St) (H1 : Hp) : Prop :=
  ∃ W : Nat → Nat → List V → St → Hp → Prop, (∃ m, W 0 m [] σ0 H1) ∧ ∀ i m ys σ' H', W i m ys σ' H' → ys.length < sizeLine ∧
    ((J.stop i H' ∧ Kf ys H') ∨ (J.go i H' ∧ ∃ N : List V → St → Hp → Prop, (∀ ys' σ2 H2, N ys' σ2 H2 → ∃ m', m' < m ∧ W (i + 1) m' ys' σ2 H2) ∧ ∀ x H'', J.yld i H' x H'' → g x σ' H'' fun σ2 H2 => tc σ2 H2 fun b H3 =>
      if b = true then te σ2 H3 fun y H4 => N (ys ++ [y]) σ2 H4 else N ys σ2 H3))
def tComp (wi : TI) (ix : List (Option Nat)) (g : TG) (tc : TT) (te : TE) : TE := fun σ H Q =>
  wi σ H fun J H1 => CompW J g tc te (fun ys H' => ∀ l, H' l = none → Q (.ref l) (upd H' l (.lst ys))) (entV ix σ) H1

section
variable {X : Cx} {tg elt iter : Expr} {ifs : List Expr} {scope : Scope} {pos : Pos} {N' : List Str} {ix : List (Option Nat)} {wi : TI} {g : TG} {tc : TT} {te : TE}

/-- where the block ends -/
def CompEnd (X : Cx) (pins : List (Addr × Obj)) (σ : St) (Kf : List V → Hp → Prop) (acc : Value) (C : Addr) (s' : Shared) : Prop :=
  ∃ D H' ys, acc = .ref D ∧ H' D = none ∧ Inv X pins σ (upd H' D (.lst ys)) s' ∧ (∃ m, s'.heap.Ns C m) ∧ H' C = none ∧ D ≠ C ∧ C ≠ X.env.locals ∧ X.s₀.heap.objs.size ≤ C ∧ (∀ x c, X.env.cells.lookup x = some c → c ≠ C) ∧ (∀ p ∈ X.pn ++ pins, p.1 ≠ C) ∧ Kf ys H'

theorem comp_core {pins : List (Addr × Obj)} {s₂ : Shared} {σ : St} {H₂ : Hp} {it : Addr} {fp : List Addr} {tn : Nat → Heap → Prop} {J : It} {Kf : List V → Hp → Prop} {RR : Value → Addr → Result → Shared → Prop} {E : Value → Shared → Prop}
    (S : CompOk X.N X.env.scope scope N' ix) (hc : X.calm = true)
    (hg : ∀ C s₂ H₂ fp, PG (compCx X N' scope C s₂ H₂ fp) tg g) (ht : ∀ C s₂ H₂ fp, PIfs (compCx X N' scope C s₂ H₂ fp) ifs tc) (he : ∀ C s₂ H₂ fp, PE (compCx X N' scope C s₂ H₂ fp) elt te)
    (I2 : Inv X pins σ H₂ s₂) (T : Turn X.prog X.w X.K tg J fp it tn) (st2 : tn 0 s₂.heap) (f2 : ∀ b ∈ fp, FpOk X pins H₂ b) (w : CompW J g tc te Kf (entV ix σ) H₂)
    (hR : ∀ acc C s', CompEnd X pins σ Kf acc C s' → RR acc C (.ok .next) s') :
    wpAny (model X.prog X.w) X.A (newList []) (fun acc s₃ => wpAny (model X.prog X.w) X.A (newFunctionEnv scope X.env.globals (clOf X.env scope.names) [] X.env.qual none .none (some X.env)) (fun cenv s₄ =>
      codeAny (model X.prog X.w) X.A (.compStart (.ListComp elt [⟨tg, iter, ifs, 0⟩] scope pos) 0 (.ref it) acc { cenv with scope := relabel scope X.env }) (RR acc cenv.locals) s₄) E s₃) E s₂ := by
  obtain ⟨W, ⟨m0, w0⟩, turn⟩ := w
  refine wpAny_newObj_type (wpAny_newFunctionEnv S.nocell (by intro y hy; simp at hy) (fun h₁ nsN sbN => ?_) S.kind)
  dsimp only at nsN sbN ⊢
  generalize eH : s₂.heap.push { cls := .type "list", dict := none, data := .seq ([] : List Value).toArray } = G2 at nsN sbN ⊢
  have sizeC : G2.objs.size = s₂.heap.objs.size + 1 := by rw [← eH, Heap.size_push]
  have neDC : s₂.heap.objs.size ≠ G2.objs.size := by rw [sizeC]; exact Nat.ne_of_lt (Nat.lt_succ_self _)
  have leC : s₂.heap.objs.size ≤ G2.objs.size := by rw [sizeC]; exact Nat.le_succ _
  have older : ∀ b, b < s₂.heap.objs.size → b ≠ G2.objs.size ∧ b ≠ s₂.heap.objs.size := fun b hb => ⟨by rw [sizeC]; exact Nat.ne_of_lt (Nat.lt_succ_of_lt hb), Nat.ne_of_lt hb⟩
  have keepOld : ∀ b o, s₂.heap.get? b = some o → h₁.get? b = some o := fun b o e => sbN.extBut b o (older b (Heap.lt_size e)).1 (Heap.get?_push_of_some _ (eH ▸ Heap.get?_push_of_some _ e))
  have accNew : h₁.PlainList s₂.heap.objs.size #[] := ⟨_, sbN.extBut _ _ neDC (Heap.get?_push_of_some _ (eH ▸ Heap.get?_push_size _ rfl))⟩
  generalize eC : G2.objs.size = C at *
  generalize eD : s₂.heap.objs.size = D at *
  have hfC : ∀ b ∈ fp, b < s₂.heap.objs.size := fun b hb => by
    obtain ⟨o, e, _⟩ := T.obj 0 _ st2 b hb
    exact Heap.lt_size e
  have hfD : ∀ b ∈ fp, b ≠ D := fun b hb => by have := hfC b hb; rw [eD] at this; exact Nat.ne_of_lt this
  have hfC' : ∀ b ∈ fp, b ≠ C := fun b hb => by have := hfC b hb; rw [eD] at this; exact Nat.ne_of_lt (Nat.lt_of_lt_of_le this leC)
  have geD : s₂.heap.objs.size ≤ D := by rw [eD]; exact Nat.le_refl _
  have geC : s₂.heap.objs.size ≤ C := by rw [eD]; exact leC
  obtain ⟨nn, hob⟩ := id accNew
  have J1 : Inv (compCx X N' scope C s₂ H₂ fp) [] (entV ix σ) H₂ { s₂ with heap := h₁, toks := s₂.toks + ([] : List (Str × Value)).length } :=
    (comp_start S I2 f2 hfC geC geD neDC keepOld nsN hob (fun v z => by cases z)).pins_of (fun p hp => absurd hp (by simp))
  have nfsD : D ∉ frs X.stack := fun hb => by
    rcases List.mem_cons.mp (I2.stkSub D hb) with z | z
    · exact absurd I2.lt (by rw [← z]; exact Nat.not_lt.mpr geD)
    · exact I2.nofs geD z
  have cOf : ∀ x c, (clOf X.env scope.names).lookup x = some c → c ≠ D ∧ c ≠ C := fun x c e => by
    obtain ⟨v, z⟩ := I2.cell x c (S.get I2 e)
    have := z.lt
    rw [eD] at this
    exact ⟨Nat.ne_of_lt this, Nat.ne_of_lt (Nat.lt_of_lt_of_le this leC)⟩
  -- the records may turn, whatever is pinned besides
  have fpk : ∀ {pl : List (Addr × Obj)} {H' : Hp}, (∀ b ∈ fp, H' b = none) → (∀ p ∈ pl, p.1 ∉ fp) → ∀ b ∈ fp, FpOk (compCx X N' scope C s₂ H₂ fp) pl H' b := fun {pl H'} hn hp b hb =>
    ⟨hn b hb, hfC' b hb, fun z => by
        rcases List.mem_cons.mp (I2.stkSub b z) with q | q
        · exact (f2 b hb).2.1 q
        · exact (f2 b hb).2.2.1 q,
      .inl hb, fun x c e => (f2 b hb).2.2.2.2.1 x c (S.get I2 e), fun p hp' z => hp p (by simpa [compCx] using hp') (by rw [z]; exact hb)⟩
  have dpk : ∀ {H' : Hp}, H' D = none → ∀ b ∈ [D], FpOk (compCx X N' scope C s₂ H₂ fp) [] H' b := fun {H'} hn b hb => by
    have e : b = D := by simpa using hb
    subst e
    exact ⟨hn, neDC, nfsD, .inr geD, fun x c e => (cOf x c e).1, fun p hp => absurd hp (by simp [compCx])⟩
  have loop : codeAny (model X.prog X.w) X.A (.compLoop (.ListComp elt [⟨tg, iter, ifs, 0⟩] scope pos) 0 (.ref it) (.ref D) (compEnvC scope (clOf X.env scope.names) C X.env)) (RR (.ref D) C) { s₂ with heap := h₁, toks := s₂.toks + ([] : List (Str × Value)).length } := by
    refine comp_loop (fun n s' => ∃ i ys σ' H' its, Inv (compCx X N' scope C s₂ H₂ fp) [] σ' H' s' ∧ tn i s'.heap ∧ (∀ b ∈ fp, H' b = none) ∧ H' D = none ∧ s'.heap.PlainList D its.toArray ∧ Vals ys its ∧ W i n ys σ' H') ?_ m0
      ⟨0, [], _, H₂, [], J1, T.keep _ _ _ st2 fun b _ o e => keepOld b o e, fun b hb => (f2 b hb).1, I2.hok.fresh geD, accNew, .nil, w0⟩
    rintro n s3 ⟨i, ys, σ3, H3, its, I3, st3, fr3, dn3, pl3, rv3, w3⟩
    obtain ⟨nn3, hob3⟩ := id pl3
    have oD : ∀ b ∈ [D], ∃ o, s3.heap.get? b = some o ∧ ∀ v, o.data ≠ .cell v := fun b hb => by
      have e : b = D := by simpa using hb
      subst e
      exact ⟨_, hob3, fun v z => by cases z⟩
    have I3' : Inv (compCx X N' scope C s₂ H₂ fp) (pinsAt [D] s3.heap) σ3 H3 s3 := by
      have := I3.pinned (dpk dn3) oD
      simpa using this
    have pD : (D, ({ cls := .type "list", data := .seq its.toArray nn3 } : Obj)) ∈ pinsAt [D] s3.heap := mem_pinsAt (by simp) hob3
    have npD : ∀ p ∈ pinsAt [D] s3.heap, p.1 ∉ fp := fun p hp z => by
      have e : p.1 = D := by simpa using (of_pinsAt hp).1
      exact hfD _ z e
    obtain ⟨hys, tt⟩ := turn i n ys σ3 H3 w3
    rcases tt with ⟨stop, qn⟩ | ⟨go, N, hN, step⟩
    · refine wpAny_mono (T.done (compCx X N' scope C s₂ H₂ fp) rfl rfl rfl hc i (pinsAt [D] s3.heap) s3 σ3 H3 (fun _ _ => False) I3' (fpk fr3 npD) st3 stop) (fun r s4 ⟨hr, I4⟩ => ?_) fun _ _ z => z
      subst hr
      have g4 := (I4.pin _ (List.mem_append_right _ pD)).1
      refine hR _ _ _ ⟨D, H3, ys, rfl, dn3, comp_leave I2 f2 geC geD I4 dn3 ⟨nn3, g4⟩ rv3 (Nat.le_of_lt hys), ?_, ?_, neDC, ?_, ?_, ?_, ?_, qn⟩
      · obtain ⟨m, hm, _⟩ := I4.loc
        exact ⟨m, hm⟩
      · exact I4.free
      · exact Nat.ne_of_gt (Nat.lt_of_lt_of_le I2.lt geC)
      · exact Nat.le_trans I2.sz geC
      · intro x c e z
        obtain ⟨v, q⟩ := I2.cell x c e
        exact absurd (Nat.lt_of_lt_of_le q.lt geC) (by rw [z]; exact Nat.lt_irrefl _)
      · intro p hp z
        exact absurd (Nat.lt_of_lt_of_le (Heap.lt_size (I2.pin p hp).1) geC) (by rw [z]; exact Nat.lt_irrefl _)
    · refine wpAny_mono (T.item (compCx X N' scope C s₂ H₂ fp) rfl rfl rfl hc i (pinsAt [D] s3.heap) s3 σ3 H3 (fun _ _ => False) I3' (fpk fr3 npD) st3 go) (fun r s4 ⟨u, hr, h4⟩ => ?_) fun _ _ z => z
      subst hr
      refine wpAny_mono h4 (fun _ s5 ⟨x, H5, I5, r5, y5, st5, fr5⟩ => ?_) fun _ _ z => z
      have I5' := I5.pinned (fpk fr5 npD) (T.obj _ _ st5)
      refine wpAny_mono (hg C s₂ H₂ fp _ s5 σ3 H5 x u _ I5' r5 (step x H5 y5)) (fun _ s6 ⟨σ6, H6, I6, q6⟩ => ?_) fun _ _ z => z
      refine wpAny_mono (ht C s₂ H₂ fp _ s6 σ6 H6 _ I6 q6) (fun b s7 ⟨H7, I7, q7⟩ => ?_) fun _ _ z => z
      have fin : ∀ {s8 : Shared} {σ8 : St} {H8 : Hp}, Inv (compCx X N' scope C s₂ H₂ fp) (pinsAt [D] s3.heap ++ pinsAt fp s5.heap) σ8 H8 s8 → s8.heap.get? D = some { cls := .type "list", data := .seq its.toArray nn3 } ∧ H8 D = none ∧
          tn (i + 1) s8.heap ∧ ∀ b ∈ fp, H8 b = none := fun {s8 σ8 H8} I8 => by
        have q := I8.pin _ (List.mem_append_right _ (List.mem_append_left _ pD))
        refine ⟨q.1, q.2.1, T.keep _ _ _ st5 fun b hb o e => (I8.pin (b, o) (List.mem_append_right _ (List.mem_append_right _ (mem_pinsAt hb e)))).1, fun b hb => ?_⟩
        obtain ⟨o, e, d⟩ := T.obj _ _ st5 b hb
        exact (I8.pin (b, o) (List.mem_append_right _ (List.mem_append_right _ (mem_pinsAt hb e)))).2.1
      cases b with
      | false =>
        obtain ⟨m', hm, w7⟩ := hN _ _ _ q7
        obtain ⟨a1, a2, a3, a4⟩ := fin I7
        exact ⟨m', hm, i + 1, ys, σ6, H7, its, I7.pins_of fun p hp => absurd hp (by simp), a3, a4, a2, ⟨nn3, a1⟩, rv3, w7⟩
      | true =>
        refine wpAny_mono (he C s₂ H₂ fp _ s7 σ6 H7 _ I7 q7) (fun v s8 ⟨y, H8, I8, r8, n8⟩ => ?_) fun _ _ z => z
        obtain ⟨m', hm, w8⟩ := hN _ _ _ n8
        obtain ⟨a1, a2, a3, a4⟩ := fin I8
        have hsz : its.toArray.size ≤ sizeLine := by
          have := rv3.length
          rw [List.size_toArray]
          omega
        refine wpAny_list_append_plain (hsz := hsz) ⟨nn3, a1⟩ fun h9 hl9 hs9 => ?_
        have I9 : Inv (compCx X N' scope C s₂ H₂ fp) [] σ6 H8 { s8 with heap := h9 } :=
          (I8.pins_of (pins' := []) fun p hp => absurd hp (by simp)).turned (t' := s8.toks) (fun b o hb e => (hs9.2 b hb).trans e) a2 neDC (.inr geD) (fun x c e => (cOf x c e).1) fun p hp => absurd hp (by simp [compCx])
        refine ⟨m', hm, i + 1, ys ++ [y], σ6, H8, its ++ [v], I9, T.keep _ _ _ a3 fun b hb o e => (hs9.2 b (hfD b hb)).trans e, a4, a2, ?_, rv3.append (.cons r8 .nil), w8⟩
        have e : (its ++ [v]).toArray = its.toArray.push v := by simp
        rw [e]; exact hl9
  exact codeAny_compStart_list loop (T.self _ 0 _ _ _ (T.keep _ _ _ st2 fun b _ o e => keepOld b o e) loop)

/-- [elt for tg in iter if ..] -/
theorem pe_comp (N' : List Str) (ix : List (Option Nat)) (hi : PI X tg iter wi) (hg : ∀ C s₂ H₂ fp, PG (compCx X N' scope C s₂ H₂ fp) tg g) (ht : ∀ C s₂ H₂ fp, PIfs (compCx X N' scope C s₂ H₂ fp) ifs tc)
    (he : ∀ C s₂ H₂ fp, PE (compCx X N' scope C s₂ H₂ fp) elt te) (S : compOk X.N X.env.scope scope N' ix = true := by rfl) (hc : X.calm = true := by rfl) (hs : ∀ x, foldedSetIterable iter X.env x = pure x := by intro _; rfl) :
    PE X (.ListComp elt [⟨tg, iter, ifs, 0⟩] scope pos) (tComp wi ix g tc te) := by
  intro pins s σ H Q I h
  have S := CompOk.of S
  rw [eval_ListComp]
  refine wpAny_comprehension_free (use := none) (cl := clOf X.env scope.names) rfl hs (closure_of fun y hy e => I.ok.has y.1 (S.free y hy e)) S.kind S.loc (thn (hi pins s σ H _ I h) fun xv s₁ h₁ => thn h₁ fun itv s₂ h₂ => ?_)
  obtain ⟨it, fp, tn, J, H₂, rfl, I2, T, st2, f2, w⟩ := h₂
  refine comp_core (RR := fun acc C => compPost (model X.prog X.w) X.A X.xe none (EP X pins σ Q) acc C) S hc hg ht he I2 T st2 f2 w fun acc C s' ce => ?_
  obtain ⟨D, H', ys, rfl, dn, J', hm, cn, dc, c1, c2, c3, c4, kf⟩ := ce
  obtain ⟨m, hm⟩ := hm
  refine ⟨m, hm, fun h' hs' => ⟨.ref D, _, J'.turned (t' := s'.toks) (fun b o hb e => (hs'.2 b hb).trans e) (by rw [upd_ne dc.symm]; exact cn) c1 (.inr c2) c3 c4, rfl, kf D dn⟩⟩

/-- x = [elt for tg in iter if ..] where the list goes right into its name -/
theorem ps_setC (N' : List Str) (ix : List (Option Nat)) {i : Nat} {x : Str} {pos' spos : Pos} (hN : X.N.Nodup) (hxi : X.N[i]? = some x) (hx : Loc X.env.scope x) (hi : PI X tg iter wi) (hg : ∀ C s₂ H₂ fp, PG (compCx X N' scope C s₂ H₂ fp) tg g) (ht : ∀ C s₂ H₂ fp, PIfs (compCx X N' scope C s₂ H₂ fp) ifs tc)
    (he : ∀ C s₂ H₂ fp, PE (compCx X N' scope C s₂ H₂ fp) elt te) (S : compOk X.N X.env.scope scope N' ix = true := by rfl) (hc : X.calm = true := by rfl) (hs : ∀ x, foldedSetIterable iter X.env x = pure x := by intro _; rfl)
    (hsw : swapsWith (.ListComp elt [⟨tg, iter, ifs, 0⟩] scope pos) (some (.Name x pos')) spos.line X.env = pure true := by rfl) (hf : X.fn x = true ∨ X.env.scope.names.lookup x = some .local := by first | exact .inl rfl | exact .inr rfl | assumption) :
    PS X (.Assign [.Name x pos'] (.ListComp elt [⟨tg, iter, ifs, 0⟩] scope pos) spos) (tAsg (tComp wi ix g tc te) (gName i)) := by
  intro pins s σ H D I h
  have S := CompOk.of S
  rw [exec_Assign_Name_used _ _ _ _ hsw]
  refine wpAny_bind (wpAny_standAt (wpAny_bind ?_))
  show wpAny _ X.A (do let _ ← comprehension (.ListComp elt [⟨tg, iter, ifs, 0⟩] scope pos) scope X.env _ (newList []) false (eval iter X.env) (some (assign (.Name x pos') X.env))) _ _ s
  refine wpAny_bind (wpAny_mono (wpAny_comprehension_free (use := some (assign (.Name x pos') X.env)) (cl := clOf X.env scope.names) (Q := fun _ s' => SP X pins D .next s') rfl hs (closure_of fun y hy e => I.ok.has y.1 (S.free y hy e)) S.kind S.loc
    (thn (hi pins s σ H _ I h) fun xv s₁ h₁ => thn h₁ fun itv s₂ h₂ => ?_)) (fun _ s' hq => wpAny_pure (wpAny_pure hq)) fun _ _ e => e)
  obtain ⟨it, fp, tn, J, H₂, rfl, I2, T, st2, f2, w⟩ := h₂
  refine comp_core (RR := fun acc C => compPost (model X.prog X.w) X.A X.xe (some (assign (.Name x pos') X.env)) (fun _ s' => SP X pins D .next s') acc C) S hc hg ht he I2 T st2 f2 w fun acc C s' ce => ?_
  obtain ⟨D', H', ys, rfl, dn, J', hm, cn, dc, c1, c2, c3, c4, kf⟩ := ce
  obtain ⟨m, hm⟩ := hm
  show wpAny _ X.A (assign (.Name x pos') X.env (.ref D')) _ _ _
  refine wpAny_assign_Name (store_ok2 (v := .ref D') J' hN hxi hx rfl (fun s2 J2 hsb => ?_) hf)
  obtain ⟨a, hsb, ha⟩ := hsb
  have hCa : C ≠ a := by
    rcases ha with z | z
    · rw [z]; exact c1
    · exact (c3 x a z).symm
  refine ⟨m, hm.sameBut hsb hCa, fun h' hs' => ?_⟩
  exact ⟨_, _, J2.turned (t' := s2.toks) (fun b o hb e => (hs'.2 b hb).trans e) (by rw [upd_ne dc.symm]; exact cn) c1 (.inr c2) c3 c4, kf D' dn⟩

/-- over a list that stays -/
theorem comp_list {K : PySem.W.Frag} {a : Addr} {xs : List V} {Kf : List V → Hp → Prop} {σ0 : St} {H1 : Hp} (Pv : Nat → List V → St → Hp → Prop) (hz : xs.length < sizeLine) (h0 : Pv 0 [] σ0 H1) (hb : ∀ i ys σ H, Pv i ys σ H → ys.length ≤ i) (hl : ∀ i ys σ H, i ≤ xs.length → Pv i ys σ H → SqL K H a xs)
    (hs : ∀ i x ys σ H, xs[i]? = some x → Pv i ys σ H → g x σ H fun σ2 H2 => tc σ2 H2 fun b H3 => if b = true then te σ2 H3 fun y H4 => Pv (i + 1) (ys ++ [y]) σ2 H4 else Pv (i + 1) ys σ2 H3) (hd : ∀ ys σ H, Pv xs.length ys σ H → Kf ys H) : CompW (Itl K a) g tc te Kf σ0 H1 := by
  refine ⟨fun i m ys σ H => m = xs.length - i ∧ i ≤ xs.length ∧ Pv i ys σ H, ⟨xs.length, by simp, Nat.zero_le _, h0⟩, ?_⟩
  rintro i m ys σ H ⟨rfl, hi, p⟩
  have q := hl i ys σ H hi p
  refine ⟨Nat.lt_of_le_of_lt (hb _ _ _ _ p) (Nat.lt_of_le_of_lt hi hz), ?_⟩
  by_cases hlt : i < xs.length
  · refine .inr ⟨⟨xs, xs[i], q, by simp [hlt]⟩, Pv (i + 1), fun ys' σ' H' p' => ⟨xs.length - (i + 1), Nat.sub_lt_sub_left hlt (Nat.lt_succ_self i), rfl, hlt, p'⟩, fun x H' y => ?_⟩
    obtain ⟨e, y⟩ := y
    subst e
    exact hs i x ys σ _ (y xs q) p
  · have e : i = xs.length := by omega
    subst e
    exact .inl ⟨⟨xs, q, Nat.le_refl _⟩, hd ys σ H p⟩
theorem comp_range {lo : Int} {n : Nat} {Kf : List V → Hp → Prop} {σ0 : St} {H1 : Hp} (Pv : Nat → List V → St → Hp → Prop) (hz : n < sizeLine) (h0 : Pv 0 [] σ0 H1) (hb : ∀ i ys σ H, Pv i ys σ H → ys.length ≤ i)
    (hs : ∀ i ys σ H, i < n → Pv i ys σ H → g (.int (lo + i)) σ H fun σ2 H2 => tc σ2 H2 fun b H3 => if b = true then te σ2 H3 fun y H4 => Pv (i + 1) (ys ++ [y]) σ2 H4 else Pv (i + 1) ys σ2 H3) (hd : ∀ ys σ H, Pv n ys σ H → Kf ys H) : CompW (Itr lo n) g tc te Kf σ0 H1 := by
  refine ⟨fun i m ys σ H => m = n - i ∧ i ≤ n ∧ Pv i ys σ H, ⟨n, by simp, Nat.zero_le _, h0⟩, ?_⟩
  rintro i m ys σ H ⟨rfl, hi, p⟩
  refine ⟨Nat.lt_of_le_of_lt (hb _ _ _ _ p) (Nat.lt_of_le_of_lt hi hz), ?_⟩
  by_cases hlt : i < n
  · refine .inr ⟨hlt, Pv (i + 1), fun ys' σ' H' p' => ⟨n - (i + 1), Nat.sub_lt_sub_left hlt (Nat.lt_succ_self i), rfl, hlt, p'⟩, fun x H' y => ?_⟩
    obtain ⟨e, y⟩ := y
    subst e y
    exact hs i ys σ _ hlt p
  · have e : i = n := by omega
    subst e
    exact .inl ⟨Nat.le_refl _, hd ys σ H p⟩
end
end L2
namespace L2
open PySem PySem.Spec PyProof.Rows
section
variable {prog : Program} {w : World} {A : Around} {E : Value → Shared → Prop} {Q : Value → Shared → Prop} {s : Shared} {it p : Addr} {items : Array Value}
end
end L2
namespace L2
open PySem PySem.Spec PyProof.Rows
/-- // by a number of at most 250 bits -/
def CDivB (i j : Int) : Prop := 0 < j ∧ j < 2 ^ 250
theorem op_fdivB {X : Cx} : OpR X (binaryOp .FloorDiv) (rI CDivB fun i j => .int (i / j)) := opI fun i j _ _ _ _ _ hc q => by
  obtain ⟨h0, h1⟩ := hc
  refine floordiv_int (by omega) ?_ (.inl (PyProof.noPylong_of_log2 ?_))
  · rw [Int.fdiv_eq_ediv_of_nonneg i (by omega)]; exact q
  · have h2 : j.natAbs < 2 ^ 250 := by
      have e : ((j.natAbs : Nat) : Int) = j := Int.natAbs_of_nonneg (by omega)
      have : ((j.natAbs : Nat) : Int) < ((2 ^ 250 : Nat) : Int) := by rw [e]; exact_mod_cast h1
      exact Int.ofNat_lt.mp this
    have h3 : j.natAbs ≠ 0 := by omega
    have h4 : j.natAbs.log2 < 250 := (Nat.log2_lt h3).mpr h2
    exact Nat.lt_of_lt_of_le h4 (by decide)

/-! ### a deal and its draws -/
def dealK (sd n : Int) (l : Addr) : List (Key × V) := [(.inr "seed", .int sd), (.inr "number", .int n), (.inr "left", .ref l)]
structure DealAt (H : Hp) (d l : Addr) (sd n : Int) (ls : List Int) : Prop where
  dc : H d = some (.dK (dealK sd n l))
  lc : H l = some (.lst (ls.map V.int))
  s0 : 0 ≤ sd
  s1 : sd < 2147483647
  n0 : 0 ≤ n
  l0 : ∀ x ∈ ls, 0 ≤ x
def Deal (H : Hp) (d l : Addr) : Prop := ∃ sd n ls, DealAt H d l sd n ls
/-- all but the deal is as it was -/
def Out (d l : Addr) (H H' : Hp) : Prop := ∀ b o, H b = some o → b ≠ d → b ≠ l → H' b = some o
theorem same_new {H : Hp} {p : Addr} (h : H p = none) (o : HO) : Same H (upd H p o) := fun b u q => by rw [upd_ne (ne_of_none q h)]; exact q
/-- a draw below m: some number, the deal turned, nothing else -/
def spDraw : Sp := fun vs H Q _ => ∃ (d l : Addr) (m : Int), vs = [.ref d, .int m] ∧ Deal H d l ∧ 0 < m ∧ m < 2 ^ 64 ∧
  ∀ (r : Int) (H' : Hp), 0 ≤ r → r < m → Deal H' d l → Out d l H H' → Q (.int r) H'
end L2
namespace L2
open PySem PySem.Spec PyProof.Rows
/-! ### plain data: ints, texts, bools, None, tuples, lists -/
mutual
def RepD (K : PySem.W.Frag) (H : Hp) : PyData → V → Prop
  | .none, v => v = .non
  | .bool b, v => v = .bl b
  | .int i, v => v = .int i
  | .str x, v => v = .str x
  | .tuple ds, v => ∃ a vs, v = .ref a ∧ SqT K H a vs ∧ RepL K H ds vs
  | .list ds, v => ∃ a vs, v = .ref a ∧ SqL K H a vs ∧ RepL K H ds vs
  | .dict _, _ => False
def RepL (K : PySem.W.Frag) (H : Hp) : List PyData → List V → Prop
  | [], vs => vs = []
  | d :: ds, vs => ∃ v r, vs = v :: r ∧ RepD K H d v ∧ RepL K H ds r
end
section
variable {X : Cx} {pins : List (Addr × Obj)} {σ : St} {H : Hp} {s : Shared}
mutual
theorem RepD.reads (I : Inv X pins σ H s) : ∀ (d : PyData) (v : V) (u : Value), RepD X.K H d v → RelV v u → ∃ as, Reads s.heap u d as
  | .none, v, u, h, r => by
    have h : v = .non := h
    subst h; cases r; exact ⟨_, .none⟩
  | .bool b, v, u, h, r => by
    have h : v = .bl b := h
    subst h; cases r; exact ⟨_, .bool b⟩
  | .int i, v, u, h, r => by
    have h : v = .int i := h
    subst h; obtain ⟨t, rfl⟩ := r; exact ⟨_, .int i t⟩
  | .str x, v, u, h, r => by
    have h : v = .str x := h
    subst h; obtain ⟨t, rfl⟩ := r; exact ⟨_, .str x t⟩
  | .tuple ds, v, u, h, r => by
    obtain ⟨a, vs, rfl, hs, hl⟩ := h
    cases r
    obtain ⟨its, rv, ⟨o, ho, hc, n, hd⟩, _⟩ := I.tuple hs
    obtain ⟨as, ra⟩ := RepL.reads I ds vs its hl rv
    exact ⟨_, .tuple ho hc hd (by simpa using ra)⟩
  | .list ds, v, u, h, r => by
    obtain ⟨a, vs, rfl, hs, hl⟩ := h
    cases r
    obtain ⟨its, rv, pl, _⟩ := I.list hs
    obtain ⟨o, ho, hc, n, hd⟩ := pl.isList
    obtain ⟨as, ra⟩ := RepL.reads I ds vs its hl rv
    exact ⟨_, .list ho hc hd (by simpa using ra)⟩
  | .dict _, v, u, h, r => h.elim
theorem RepL.reads (I : Inv X pins σ H s) : ∀ (ds : List PyData) (vs : List V) (us : List Value), RepL X.K H ds vs → Vals vs us → ∃ as, ReadsAll s.heap us ds as
  | [], vs, us, h, r => by
    have h : vs = [] := h
    subst h; cases r; exact ⟨_, .nil⟩
  | d :: ds, vs, us, h, r => by
    obtain ⟨v, t, rfl, hd, ht⟩ := h
    cases r with
    | cons r1 r2 =>
      obtain ⟨as, ra⟩ := RepD.reads I d v _ hd r1
      obtain ⟨bs, rb⟩ := RepL.reads I ds t _ ht r2
      exact ⟨_, .cons ra rb⟩
end
end
section
variable {X : Cx}
def rEqD (K : PySem.W.Frag) (neg : Bool) : R2 := fun x y H Q => ∃ d e, RepD K H d x ∧ RepD K H e y ∧ SeqAt.shaped d = true ∧ SeqAt.shaped e = true ∧ SeqAt.noMix d e = true ∧ Q (.bl (if neg then !Spec.same d e else Spec.same d e)) H
theorem op_eqD {k : Nat} (hr : Room k X.A) : OpR X (compareOp .Eq) (rEqD X.K false) := by
  intro pins s σ H x y v u Q I rx ry h
  obtain ⟨d, e, hd, he, sd, se, mx, q⟩ := h
  obtain ⟨as, ra⟩ := RepD.reads I d x v hd rx
  obtain ⟨bs, rb⟩ := RepD.reads I e y u he ry
  exact eq_dataH_same ra rb sd se hr.units mx ⟨.bl _, H, I, rfl, q⟩
/-! tuples of ints -/
/-! isinstance, all -/
theorem call_isinst : CallR X (.builtin "isinstance") (fun xs H Q => ∃ x n t b, xs = [x, .ty n] ∧ TyOf X.K H x t ∧ PySem.W.kitOne X.K t (.type n) = some b ∧ Q (.bl b) H) := by
  intro pins s σ H xs us Q I r h
  obtain ⟨x, n, t, b, rfl, ty, e, q⟩ := h
  obtain ⟨u, w', rfl, ru, rw'⟩ := vals2 r
  cases rw'
  exact isinst_ok I ru ty e fun tk => ⟨.bl b, H, I.tok tk, rfl, q⟩
theorem call_all (hc : X.calm = true := by rfl) : CallR X (.builtin "all") (fun xs H Q => ∃ (p : Addr) (bs : List Bool), xs = [.ref p] ∧ SqL X.K H p (bs.map V.bl) ∧ Q (.bl (bs.all id)) H) := by
  intro pins s σ H xs us Q I r h
  obtain ⟨p, bs, rfl, hq, q⟩ := h
  obtain ⟨u, rfl, ru⟩ := vals1 r
  cases ru
  obtain ⟨its, rv, pl, hz⟩ := I.list hq
  have lp : p < s.heap.objs.size := by
    obtain ⟨o, e, _⟩ := pl.isList
    exact Heap.lt_size e
  refine call_all_walk (wpAny_pyIter_list pl.isList ⟨s.heap.objs.size, _, _, _, _, _, fun i => bs.getD i true, rfl, Walks.list (A := X.A.in1) (I.ok.hd hc) s.heap.objs.size p (Nat.ne_of_lt lp) its.toArray, ⟨⟨_, Heap.get?_push_size _ rfl, rfl, rfl⟩, pl.isList.at fun o e => Heap.get?_push_of_some _ e⟩, ?_, ?_⟩)
  · intro i v s1 Q1 E1 hv hq1
    have hi : its[i]? = some v := by simpa using hv
    have hl := rv.length
    rw [List.length_map] at hl
    have hb : i < bs.length := by
      have := (List.getElem?_eq_some_iff.mp hi).1
      omega
    obtain ⟨u, hu, ru⟩ := rv.get (i := i) (x := V.bl bs[i]) (by rw [List.getElem?_map, List.getElem?_eq_getElem hb]; rfl)
    rw [hi] at hu
    cases hu
    cases ru
    have e : bs.getD i true = bs[i] := by simp [List.getD, hb]
    dsimp only at hq1
    rw [e] at hq1
    exact wpAny_truthy_bool hq1
  · intro h' tk hk
    have kept : ∀ b o, s.heap.get? b = some o → h'.get? b = some o := fun b o e => hk b o (by
      intro z
      have z : b = s.heap.objs.size := by simpa using z
      exact absurd (Heap.lt_size e) (by rw [z]; exact Nat.lt_irrefl _)) (Heap.get?_push_of_some _ e)
    refine ⟨.bl (bs.all id), H, I.kept kept, ?_, q⟩
    show Value.bool _ = Value.bool _
    have hl := rv.length
    rw [List.length_map] at hl
    have e : ((List.range its.toArray.size).all fun i => bs.getD i true) = bs.all id := by
      rw [List.size_toArray, ← hl]
      clear q hq rv pl hk hz hl
      rw [Bool.eq_iff_iff, List.all_eq_true, List.all_eq_true]
      constructor
      · intro h b hb
        obtain ⟨i, hi, e⟩ := List.getElem_of_mem hb
        have := h i (List.mem_range.mpr hi)
        simp [List.getD, hi] at this
        rw [← e]; exact this
      · intro h i hi
        have hi := List.mem_range.mp hi
        simp [List.getD, hi]
        exact h _ (List.getElem_mem hi)
    rw [e]
end
end L2
namespace L2
open PySem PySem.Spec PyProof.Rows
/-! ### the rules that name the fragment, with the fragment told: for a comprehension's block -/
section
variable {X : Cx} (K : PySem.W.Frag)
end
end L2
namespace L2
open PySem PySem.Spec PyProof.Rows
theorem iteP {c A B : Prop} [Decidable c] (hc : c) (h : A) : if c then A else B := by rw [if_pos hc]; exact h
theorem iteN {c A B : Prop} [Decidable c] (hc : ¬ c) (h : B) : if c then A else B := by rw [if_neg hc]; exact h
theorem at0 {α : Type} (v : α) (r : List α) : atI (v :: r) 0 = some v := by
  have h : (0 : Int) < ((v :: r).length : Int) := by simp
  unfold atI ixN
  rw [if_pos (by decide), if_pos h]
  rfl
/-! ### list(range(a, b)) -/
/-! ### any -/
section
variable {X : Cx}
theorem pgtK {es : List Expr} {k : Nat} {t : TGs} {n : Nat} {pos : Pos} (K : PySem.W.Frag) (hc : X.calm = true) (h : PGs X es t) (hK : X.K = K := by rfl)
    (hn : (assignEach es X.env).length = n := by rfl) (hst : (assignEach es X.env).findIdx? (·.1) = none := by rfl) : PG X (.Tuple es k pos) (gTup K n t) := by subst hK; exact pg_tup hc h hn hst
end
/-! ### pairs of ints, as tuples on the heap -/
end L2
namespace L2
open PySem PySem.Spec PyProof.Rows
/-! ### products of great numbers -/
/-! ### repr of plain data -/
section
variable {X : Cx}
end
/-! ### a, b, c = x, y, z with plain local names -/
end L2
namespace L2
open PySem PySem.Spec PyProof.Rows
section
variable {X : Cx} {pins : List (Addr × Obj)} {σ : St} {H : Hp} {s : Shared} {h' : Heap}
/-- records of ours have turned, and a new object is laid -/
theorem Inv.turnedNew {T : Addr} {o : HO} {rs : List Addr} {t' : Nat} (I : Inv X pins σ H s) (hf : ∀ b ∈ rs, FpOk X pins H b) (k : ∀ b u, b ∉ rs → s.heap.get? b = some u → h'.get? b = some u)
    (hp : s.heap.objs.size ≤ T) (new : ObjOk X.prog X.w (upd H T o) h' T o) : Inv X pins σ (upd H T o) { s with heap := h', toks := t' } := by
  have fT : H T = none := I.hok.fresh hp
  have nT : ∀ b u, s.heap.get? b = some u → b ≠ T := fun b u e z => absurd (Heap.lt_size e) (by rw [z]; exact Nat.not_lt.mpr hp)
  have nrs : ∀ b u, H b = some u → b ∉ rs := fun b u e z => by rw [(hf b z).1] at e; cases e
  refine I.step (g' := s.gens) (d' := s.drawn) (ch := rs) (fun b hb => ⟨(hf b hb).2.2.2.1, (hf b hb).2.1, (hf b hb).2.2.2.2.1, (hf b hb).2.2.2.2.2⟩) (fun b u _ _ hc e _ => k b u hc e) (fun b u _ _ hc e _ => ⟨u.slots, k b u hc e⟩)
    (fun b u _ e n => by rw [upd_ne (nT b u e)]; exact n) (fun b u hc e => ⟨u, k b u hc e⟩) (fun b xs e => by rw [upd_ne (ne_of_none e fT)]; exact e) (fun b u v e => by rw [upd_ne (ne_of_none e fT)]; exact e)
    (fun b ps e => ⟨#[], by rw [upd_ne (ne_of_none e fT), e]; simp⟩) (fun m hm => ?_) (fun b u e => ?_) I.bare
  · obtain ⟨u, es, ep, hu, r⟩ := hm
    exact ⟨u, es, ep, k _ u (fun z => (hf _ z).2.1 rfl) hu, r⟩
  · by_cases hb : b = T
    · subst hb
      rw [upd_same] at e
      cases e
      exact new
    · rw [upd_ne hb] at e
      refine (I.hok b u e).stay (fun c v hc q => k c v ?_ q) (fun c q => by rw [upd_ne (ne_of_none q fT)]; exact q) fun c xs q => by rw [upd_ne (ne_of_none q fT)]; exact q
      rcases hc with z | z
      · rw [z]; exact nrs b u e
      · exact nrs c _ z
theorem Inv.turnedL {rs : List Addr} {t' : Nat} (I : Inv X pins σ H s) (hf : ∀ b ∈ rs, FpOk X pins H b) (k : ∀ b u, b ∉ rs → s.heap.get? b = some u → h'.get? b = some u) : Inv X pins σ H { s with heap := h', toks := t' } := by
  have nrs : ∀ b u, H b = some u → b ∉ rs := fun b u e z => by rw [(hf b z).1] at e; cases e
  refine I.step (g' := s.gens) (d' := s.drawn) (ch := rs) (fun b hb => ⟨(hf b hb).2.2.2.1, (hf b hb).2.1, (hf b hb).2.2.2.2.1, (hf b hb).2.2.2.2.2⟩) (fun b u _ _ hc e _ => k b u hc e) (fun b u _ _ hc e _ => ⟨u.slots, k b u hc e⟩)
    (fun b u _ _ n => n) (fun b u hc e => ⟨u, k b u hc e⟩) (fun b xs e => e) (fun b u v e => e) (fun b ps e => ⟨#[], by rw [e]; simp⟩) (fun m hm => ?_) (fun b u e => ?_) I.bare
  · obtain ⟨u, es, ep, hu, r⟩ := hm
    exact ⟨u, es, ep, k _ u (fun z => (hf _ z).2.1 rfl) hu, r⟩
  · refine (I.hok b u e).stay (fun c v hc q => k c v ?_ q) (fun c q => q) fun c xs q => q
    rcases hc with z | z
    · rw [z]; exact nrs b u e
    · exact nrs c _ z
end
/-! ### zip of two tuples of one length: its records stand at n .. n + 4 -/
section
variable {prog : Program} {w : World} {A : Around} {E : Value → Shared → Prop} {s : Shared}
theorem nx_tup {J t : Addr} {i : Nat} {its : Array Value} {v : Value} {Q : Value → Shared → Prop} (a1 : s.heap.IsTupleIter J t i) (a2 : s.heap.IsTuple t its) (a3 : its[i]? = some v)
    (k : ∀ g, g.IsTupleIter J t (i + 1) → Heap.SameBut J s.heap g → Q v { s with heap := g }) : wpAny (model prog w) A (Builtin.SmallTypes.nextOf (.ref J)) Q E s := by
  obtain ⟨oJ, e1, e2, e3⟩ := id a1
  obtain ⟨oT, e4, _, m, e5⟩ := a2
  unfold Builtin.SmallTypes.nextOf
  refine wpAny_bind (wpAny_callSpecial?_slot (name := Str.ofString "__next__") a1.typeIs F.slot_tuple_iterator_next (wpAny_call_entry F.slot_tuple_iterator_next a1.typeIs F.entry_tuple_iterator_next ?_ (F.args_tuple_iterator_next_1 _)))
  show wpAny _ _ (field (.ref J) 0 >>= _) _ _ s
  refine wpAny_bind (wpAny_field e1 e3 (x := .ref t) rfl ?_)
  refine (show wpAny _ _ (if (Value.ref t == Value.none) = true then _ else _) _ _ s from ?_)
  rw [if_neg (show ¬ ((Value.ref t == Value.none) = true) by exact Bool.false_ne_true)]
  show wpAny _ _ (field (.ref J) 1 >>= _) _ _ s
  refine wpAny_bind (wpAny_field e1 e3 (x := .int i 0) rfl ?_)
  refine (show wpAny _ _ (seqItems? (.ref t) >>= _) _ _ s from wpAny_bind (wpAny_seqItems e4 e5 ?_))
  simp only [Int.toNat_natCast, a3]
  refine wpAny_bind (wpAny_setField e1 e3 (by simp) (wpAny_pure ⟨v, rfl, wpAny_pure (k _ ?_ (Heap.SameBut.update ..))⟩))
  exact ⟨_, Heap.get?_update_self _ e1 (Obj.isFreed_of_fields (Obj.data_mapFields e3 _)), (Obj.cls_mapFields ..).trans e2, by rw [Obj.data_mapFields e3]; simp [rawInt]⟩
theorem nx_tup_end {J t : Addr} {i : Nat} {its : Array Value} {Q : Value → Shared → Prop} (hh : A.handled = none) (a1 : s.heap.IsTupleIter J t i) (a2 : s.heap.IsTuple t its) (a3 : its[i]? = none)
    (k : ∀ g e, Heap.ExtBut J s.heap g → (∃ o, g.get? e = some o ∧ o.cls = .type "StopIteration") → E (.ref e) { s with heap := g }) : wpAny (model prog w) A (Builtin.SmallTypes.nextOf (.ref J)) Q E s := by
  obtain ⟨oJ, e1, e2, e3⟩ := id a1
  obtain ⟨oT, e4, _, m, e5⟩ := a2
  unfold Builtin.SmallTypes.nextOf
  refine wpAny_bind (wpAny_callSpecial?_slot (name := Str.ofString "__next__") a1.typeIs F.slot_tuple_iterator_next (wpAny_call_entry F.slot_tuple_iterator_next a1.typeIs F.entry_tuple_iterator_next ?_ (F.args_tuple_iterator_next_1 _)))
  show wpAny _ _ (field (.ref J) 0 >>= _) _ _ s
  refine wpAny_bind (wpAny_field e1 e3 (x := .ref t) rfl ?_)
  refine (show wpAny _ _ (if (Value.ref t == Value.none) = true then _ else _) _ _ s from ?_)
  rw [if_neg (show ¬ ((Value.ref t == Value.none) = true) by exact Bool.false_ne_true)]
  show wpAny _ _ (field (.ref J) 1 >>= _) _ _ s
  refine wpAny_bind (wpAny_field e1 e3 (x := .int i 0) rfl ?_)
  refine (show wpAny _ _ (seqItems? (.ref t) >>= _) _ _ s from wpAny_bind (wpAny_seqItems e4 e5 ?_))
  simp only [Int.toNat_natCast, a3]
  refine wpAny_bind (wpAny_rule (wpAny_bind (wpAny_setField e1 e3 (by simp) ?_)))
  refine (show wpAny _ _ (newExc (.type "StopIteration") [] >>= _) _ _ _ from wpAny_bind ?_)
  simp only [newExc, newTuple]
  refine wpAny_bind (wpAny_newObj_type ?_ (by size_fits))
  refine wpAny_bind (m := firstArgMember _ _) (wpAny_of_eq (a := Value.none) (by first | exact rfl | (simp only [firstArgMember]; rfl)) ?_)
  refine wpAny_newObj_type ?_ (by size_fits)
  simp only [raiseNew]
  refine wpAny_bind (wpAny_handled ?_)
  first | rw [hh] | rw [show A.in1.handled = none from hh]
  refine wpAny_bind (wpAny_pure (wpAny_throw ?_))
  exact k _ _ (((Heap.SameBut.update ..).extBut.push _).push _) ⟨_, Heap.get?_push_size _ rfl, rfl⟩
/-- the records of a zip over the tuples at l1, l2, i taken -/
structure ZipAt (g : Heap) (n l1 l2 : Addr) (i : Nat) : Prop where
  z : IsZip g (n + 4) (n + 2) (n + 3) .none
  I : IsPair g (n + 2) (.ref n) (.ref (n + 1))
  O : ∃ a b, IsPair g (n + 3) a b
  i1 : g.IsTupleIter n l1 i
  i2 : g.IsTupleIter (n + 1) l2 i
theorem zip_take {n l1 l2 : Addr} {i : Nat} {xs ys : Array Value} {x y : Value} {Q : Option Value → Shared → Prop} (o1 : ∀ j, j < 5 → l1 ≠ n + j) (o2 : ∀ j, j < 5 → l2 ≠ n + j) (Z : ZipAt s.heap n l1 l2 i)
    (t1 : s.heap.IsTuple l1 xs) (t2 : s.heap.IsTuple l2 ys) (ex : xs[i]? = some x) (ey : ys[i]? = some y)
    (k : ∀ g, IsZip g (n + 4) (n + 2) (n + 3) (rawInt s.heap.objs.size) → IsPair g (n + 3) x y → g.IsTupleIter n l1 (i + 1) → g.IsTupleIter (n + 1) l2 (i + 1) → IsPair g s.heap.objs.size x y →
      (∀ c o, c ≠ n + 4 → c ≠ n + 3 → c ≠ n → c ≠ n + 1 → s.heap.get? c = some o → g.get? c = some o) → Q (some (.ref s.heap.objs.size)) { s with heap := g }) :
    wpAny (model prog w) A (pyNext (.ref (n + 4))) Q E s := by
  obtain ⟨hz, hI, ⟨a, b, hO⟩, h1, h2⟩ := Z
  have d0 : n ≠ n + 4 ∧ n + 1 ≠ n + 4 ∧ n + 2 ≠ n + 4 ∧ n + 3 ≠ n + 4 ∧ n + 3 ≠ n ∧ n + 3 ≠ n + 1 ∧ n + 1 ≠ n := by refine ⟨?_, ?_, ?_, ?_, ?_, ?_, ?_⟩ <;> (intro z; exact absurd z (by simp))
  obtain ⟨d1, d2, d3, d4, d5, d6, d7⟩ := d0
  have l10 := o1 0 (by decide); have l11 := o1 1 (by decide); have l13 := o1 3 (by decide); have l14 := o1 4 (by decide)
  have l20 := o2 0 (by decide); have l21 := o2 1 (by decide); have l23 := o2 3 (by decide); have l24 := o2 4 (by decide)
  have hT : s.TypeIs (.ref (n + 4)) "zip" := ⟨_, hz, rfl⟩
  unfold pyNext
  refine wpAny_bind (wpAny_attempt (wpAny_callSpecial?_slot (name := Str.ofString "__next__") hT F.slot_zip_next (wpAny_call_entry F.slot_zip_next hT F.entry_zip_next ?_ (F.args_zip_next_1 _))))
  refine (show wpAny _ _ (field (.ref (n + 4)) 2 >>= _) _ _ _ from wpAny_bind (wpAny_field hz rfl (x := .bool false) rfl ?_))
  refine (show wpAny _ _ (field (.ref (n + 4)) 3 >>= _) _ _ _ from wpAny_bind (wpAny_field hz rfl (x := .ref (n + 2)) rfl ?_))
  refine wpAny_bind (wpAny_seqItems hI rfl ?_)
  refine (show wpAny _ _ (Builtin.SmallTypes.ownedTupleIsFree (.ref (n + 4)) >>= _) _ _ _ from wpAny_bind ?_)
  unfold Builtin.SmallTypes.ownedTupleIsFree
  refine wpAny_bind (wpAny_field hz rfl (x := .none) rfl (wpAny_pure ?_))
  simp only [if_true]
  refine wpAny_bind (wpAny_rule (wpAny_bind (wpAny_field hz rfl (x := .ref (n + 3)) rfl (wpAny_bind (wpAny_setField_rec hz (by simp) fun g1 z1 s1 => ?_)))))
  have z1 : IsZip g1 (n + 4) (n + 2) (n + 3) .ellipsis := z1
  refine wpAny_bind ?_
  simp only [List.zipIdx_cons, List.zipIdx_nil, List.forIn_cons, List.forIn_nil]
  -- the first
  refine wpAny_bind (wpAny_bind (wpAny_onRaise (show wpAny _ _ (Builtin.SmallTypes.nextOf (.ref n) >>= _) _ _ _ from wpAny_bind (nx_tup (h1.at fun o e => s1.extBut _ _ d1 e) (t1.at fun o e => s1.extBut _ _ l14 e) ex fun g2 j2 s2 => wpAny_pure ?_))))
  have O2 : IsPair g2 (n + 3) a b := s2.extBut _ _ d5 (s1.extBut _ _ d4 hO)
  refine wpAny_bind (wpAny_seqItems O2 rfl (wpAny_bind (wpAny_updateSeq_pair O2 fun g3 O3 s3 => ?_)))
  have O3 : IsPair g3 (n + 3) x b := O3
  refine wpAny_bind (wpAny_letGo (wpAny_pure ?_))
  -- the second
  refine wpAny_bind (wpAny_bind (wpAny_onRaise (show wpAny _ _ (Builtin.SmallTypes.nextOf (.ref (n + 1)) >>= _) _ _ _ from wpAny_bind (nx_tup (h2.at fun o e => s3.extBut _ _ d6.symm (s2.extBut _ _ d7 (s1.extBut _ _ d2 e))) (t2.at fun o e => s3.extBut _ _ l23 (s2.extBut _ _ l20 (s1.extBut _ _ l24 e))) ey fun g4 j4 s4 => wpAny_pure ?_))))
  have O4 : IsPair g4 (n + 3) x b := s4.extBut _ _ d6 O3
  refine wpAny_bind (wpAny_seqItems O4 rfl (wpAny_bind (wpAny_updateSeq_pair O4 fun g5 O5 s5 => ?_)))
  have O5 : IsPair g5 (n + 3) x y := O5
  refine wpAny_bind (wpAny_letGo (wpAny_pure (wpAny_pure ?_)))
  -- the pair
  refine wpAny_bind (wpAny_seqItems O5 rfl (wpAny_bind (wpAny_newTuple ?_)))
  have sz : g5.objs.size = s.heap.objs.size := by rw [s5.1, s4.1, s3.1, s2.1, s1.1]
  have z5 : IsZip g5 (n + 4) (n + 2) (n + 3) .ellipsis := s5.extBut _ _ d4.symm (s4.extBut _ _ d2.symm (s3.extBut _ _ d4.symm (s2.extBut _ _ d1.symm z1)))
  have k5 : ∀ c o, c ≠ n + 4 → c ≠ n + 3 → c ≠ n → c ≠ n + 1 → s.heap.get? c = some o → g5.get? c = some o := fun c o c1 c2 c3 c4 e => s5.extBut _ _ c2 (s4.extBut _ _ c4 (s3.extBut _ _ c2 (s2.extBut _ _ c3 (s1.extBut _ _ c1 e))))
  have j5 : g5.IsTupleIter n l1 (i + 1) := j2.at fun o e => s5.extBut _ _ d5.symm (s4.extBut _ _ d7.symm (s3.extBut _ _ d5.symm e))
  have m5 : g5.IsTupleIter (n + 1) l2 (i + 1) := j4.at fun o e => s5.extBut _ _ d6.symm e
  have zlt : n + 4 < g5.objs.size := Heap.lt_size z5
  refine (show wpAny _ _ (Builtin.SmallTypes.ownedTupleHandOut (.ref (n + 4)) (.ref g5.objs.size) >>= _) _ _ _ from wpAny_bind ?_)
  unfold Builtin.SmallTypes.ownedTupleHandOut
  have z6 : IsZip (g5.push { cls := .type "tuple", data := .seq #[x, y] }) (n + 4) (n + 2) (n + 3) .ellipsis := Heap.get?_push_of_some _ z5
  refine wpAny_bind (wpAny_setField_rec z6 (by simp) fun g7 z7 s7 => ?_)
  have z7 : IsZip g7 (n + 4) (n + 2) (n + 3) (rawInt g5.objs.size) := z7
  refine wpAny_setField_rec z7 (by simp) fun g8 z8 s8 => ?_
  have z8 : IsZip g8 (n + 4) (n + 2) (n + 3) (rawInt g5.objs.size) := z8
  have up : ∀ c o, c ≠ n + 4 → g5.get? c = some o → g8.get? c = some o := fun c o c1 e => s8.extBut _ _ c1 (s7.extBut _ _ c1 (Heap.get?_push_of_some _ e))
  have T8 : IsPair g8 g5.objs.size x y := s8.extBut _ _ (Nat.ne_of_gt zlt) (s7.extBut _ _ (Nat.ne_of_gt zlt) (Heap.get?_push_size _ rfl))
  rw [sz] at z8 T8
  refine wpAny_pure ⟨_, rfl, wpAny_pure ?_⟩
  refine (show Q (some (.ref g5.objs.size)) _ from ?_)
  rw [sz]
  exact k g8 z8 (up _ _ d4 O5) (j5.at fun o e => up _ o d1 e) (m5.at fun o e => up _ o d2 e) T8 fun c o c1 c2 c3 c4 e => up c o c1 (k5 c o c1 c2 c3 c4 e)
theorem zip_stop {n l1 l2 : Addr} {i : Nat} {xs : Array Value} {Q : Option Value → Shared → Prop} (hh : A.handled = none) (o1 : ∀ j, j < 5 → l1 ≠ n + j) (Z : ZipAt s.heap n l1 l2 i)
    (t1 : s.heap.IsTuple l1 xs) (ex : xs[i]? = none)
    (k : ∀ g, (∀ c o, c ≠ n + 4 → c ≠ n → s.heap.get? c = some o → g.get? c = some o) → Q none { s with heap := g }) : wpAny (model prog w) A (pyNext (.ref (n + 4))) Q E s := by
  obtain ⟨hz, hI, ⟨a, b, hO⟩, h1, h2⟩ := Z
  have d1 : n ≠ n + 4 := by intro z; exact absurd z (by simp)
  have l14 := o1 4 (by decide)
  have hT : s.TypeIs (.ref (n + 4)) "zip" := ⟨_, hz, rfl⟩
  unfold pyNext
  refine wpAny_bind (wpAny_attempt (wpAny_callSpecial?_slot (name := Str.ofString "__next__") hT F.slot_zip_next (wpAny_call_entry F.slot_zip_next hT F.entry_zip_next ?_ (F.args_zip_next_1 _))))
  refine (show wpAny _ _ (field (.ref (n + 4)) 2 >>= _) _ _ _ from wpAny_bind (wpAny_field hz rfl (x := .bool false) rfl ?_))
  refine (show wpAny _ _ (field (.ref (n + 4)) 3 >>= _) _ _ _ from wpAny_bind (wpAny_field hz rfl (x := .ref (n + 2)) rfl ?_))
  refine wpAny_bind (wpAny_seqItems hI rfl ?_)
  refine (show wpAny _ _ (Builtin.SmallTypes.ownedTupleIsFree (.ref (n + 4)) >>= _) _ _ _ from wpAny_bind ?_)
  unfold Builtin.SmallTypes.ownedTupleIsFree
  refine wpAny_bind (wpAny_field hz rfl (x := .none) rfl (wpAny_pure ?_))
  simp only [if_true]
  refine wpAny_bind (wpAny_rule (wpAny_bind (wpAny_field hz rfl (x := .ref (n + 3)) rfl (wpAny_bind (wpAny_setField_rec hz (by simp) fun g1 z1 s1 => ?_)))))
  have z1 : IsZip g1 (n + 4) (n + 2) (n + 3) .ellipsis := z1
  refine wpAny_bind ?_
  simp only [List.zipIdx_cons, List.zipIdx_nil, List.forIn_cons, List.forIn_nil]
  refine wpAny_bind (wpAny_bind (wpAny_onRaise (show wpAny _ _ (Builtin.SmallTypes.nextOf (.ref n) >>= _) _ _ _ from wpAny_bind (nx_tup_end hh (h1.at fun o e => s1.extBut _ _ d1 e) (t1.at fun o e => s1.extBut _ _ l14 e) ex fun g2 e s2 he => ?_))))
  obtain ⟨oe, hoe, hce⟩ := he
  have z2 : IsZip g2 (n + 4) (n + 2) (n + 3) .ellipsis := s2 _ _ d1.symm z1
  have ez : e ≠ n + 4 := fun q => by subst q; rw [z2] at hoe; cases hoe; simp at hce
  refine wpAny_setField_rec z2 (by simp) fun g3 _ s3 => ?_
  refine wpAny_bind (wpAny_isInstance (T := "StopIteration") (b := true) ⟨oe, s3.extBut _ _ ez hoe, hce⟩ isSubtype_stop ?_)
  exact wpAny_pure (k _ fun c o c1 c2 q => s3.extBut _ _ c1 (s2 _ _ c2 (s1.extBut _ _ c1 q)))
end
end L2
namespace L2
open PySem PySem.Spec PyProof.Rows
abbrev zA (g : Heap) (l1 : Addr) : Heap := g.push { cls := .type "tuple_iterator", data := .fields #[.ref l1, .int 0 0] }
abbrev zB (g : Heap) (l1 l2 : Addr) : Heap := (zA g l1).push { cls := .type "tuple_iterator", data := .fields #[.ref l2, .int 0 0] }
abbrev zC (g : Heap) (l1 l2 : Addr) : Heap := (zB g l1 l2).push { cls := .type "tuple", data := .seq #[.ref g.objs.size, .ref (zA g l1).objs.size] }
abbrev zD (g : Heap) (l1 l2 : Addr) : Heap := (zC g l1 l2).push { cls := .type "tuple", data := .seq #[.none, .none] }
abbrev zE (g : Heap) (l1 l2 : Addr) : Heap := (zD g l1 l2).push { cls := .type "zip", data := .fields #[.none, .bool false, .bool false, .ref (zB g l1 l2).objs.size, .ref (zC g l1 l2).objs.size] }
theorem zip_new (l1 l2 : Addr) (xs ys : Array Value) : Meets (Builtin.«zip.__new__» ⟨[.type "zip", .ref l1, .ref l2], []⟩) (fun _ R s => s.heap.IsTuple l1 xs ∧ s.heap.IsTuple l2 ys ∧
      R (.ok (.ret (.ref (zD s.heap l1 l2).objs.size))) { s with heap := zE s.heap l1 l2 }) :=
  .of_wp fun prog w A R s h => by
    obtain ⟨q, g, d, tk, os⟩ := s; obtain ⟨t1, t2, h⟩ := h
    have hS := PySem.sub_zip
    have T1 : Heap.IsTuple (Shared.heap ⟨q, g, d, tk, os⟩) l1 xs := t1
    have T2 : Heap.IsTuple (Shared.heap ⟨q.push { cls := .type "tuple_iterator", data := .fields #[.ref l1, .int 0 0] }, g, d, tk, os⟩) l2 ys := t2.at fun o e => Heap.get?_push_of_some _ e
    wp_walk using wpAny_pyIter_tuple T1, wpAny_pyIter_tuple T2
    exact ⟨_, rfl, h⟩
section
variable {prog : Program} {w : World} {A : Around} {E : Value → Shared → Prop} {s : Shared}
theorem call_zipT {l1 l2 : Addr} {xs ys : Array Value} {Q : Value → Shared → Prop} (t1 : s.heap.IsTuple l1 xs) (t2 : s.heap.IsTuple l2 ys)
    (k : ∀ g, ZipAt g s.heap.objs.size l1 l2 0 → (∀ c o, s.heap.get? c = some o → g.get? c = some o) → Q (.ref (s.heap.objs.size + 4)) { s with heap := g }) :
    wpAny (model prog w) A (call (.type "zip") [.ref l1, .ref l2]) Q E s := by
  refine callType_new F.called_zip (by decide) (F.typeCall_zip_2 _ _) (F.newCall_zip_2 _ _) (fun obj => F.args_object_init_3 obj _ _) F.entry_zip_new (zip_new l1 l2 xs ys) ⟨t1, t2, ?_⟩
  have n1 : (zA s.heap l1).objs.size = s.heap.objs.size + 1 := by rw [Heap.size_push]
  have n2 : (zB s.heap l1 l2).objs.size = s.heap.objs.size + 2 := by rw [Heap.size_push, n1]
  have n3 : (zC s.heap l1 l2).objs.size = s.heap.objs.size + 3 := by rw [Heap.size_push, n2]
  have n4 : (zD s.heap l1 l2).objs.size = s.heap.objs.size + 4 := by rw [Heap.size_push, n3]
  have b5 : (zE s.heap l1 l2).get? (zD s.heap l1 l2).objs.size = some _ := Heap.get?_push_size _ rfl
  have b4 : (zE s.heap l1 l2).get? (zC s.heap l1 l2).objs.size = some _ := Heap.get?_push_of_some _ (Heap.get?_push_size _ rfl)
  have b3 : (zE s.heap l1 l2).get? (zB s.heap l1 l2).objs.size = some _ := Heap.get?_push_of_some _ (Heap.get?_push_of_some _ (Heap.get?_push_size _ rfl))
  have b2 : (zE s.heap l1 l2).get? (zA s.heap l1).objs.size = some _ := Heap.get?_push_of_some _ (Heap.get?_push_of_some _ (Heap.get?_push_of_some _ (Heap.get?_push_size _ rfl)))
  have b1 : (zE s.heap l1 l2).get? s.heap.objs.size = some _ := Heap.get?_push_of_some _ (Heap.get?_push_of_some _ (Heap.get?_push_of_some _ (Heap.get?_push_of_some _ (Heap.get?_push_size _ rfl))))
  show _ ∧ _
  rw [n2, n3, n4] at b5
  rw [n1, n2] at b3
  rw [n3] at b4
  rw [n1] at b2
  rw [n4]
  exact ⟨⟨_, b5, rfl⟩, k _ ⟨b5, b3, ⟨_, _, b4⟩, ⟨_, b1, rfl, rfl⟩, ⟨_, b2, rfl, rfl⟩⟩ fun c o q => Heap.get?_push_of_some _ (Heap.get?_push_of_some _ (Heap.get?_push_of_some _ (Heap.get?_push_of_some _ (Heap.get?_push_of_some _ q))))⟩
end
/-! ### the walk over a zip of two tuples of one length -/
def Itz (K : PySem.W.Frag) (a b : Addr) : It :=
  ⟨fun i H => ∃ xs ys, SqT K H a xs ∧ SqT K H b ys ∧ xs.length = ys.length ∧ i < xs.length,
   fun i H x H' => ∃ t, H t = none ∧ x = .ref t ∧ ∀ xs ys, SqT K H a xs → SqT K H b ys → ∃ u v, xs[i]? = some u ∧ ys[i]? = some v ∧ H' = upd H t (.tup [u, v]),
   fun i H => ∃ xs, SqT K H a xs ∧ xs.length ≤ i⟩
theorem turn_zip {P : Program} {w : World} {K : PySem.W.Frag} {elts : List Expr} {x1 : Nat} {pos : Pos} (a b n : Addr) (ha : a < n) (hb : b < n) :
    Turn P w K (.Tuple elts x1 pos) (Itz K a b) [n, n + 1, n + 2, n + 3, n + 4] (n + 4) (fun i h => ZipAt h n a b i) where
  mem := by simp
  obj := fun i h Z c hc => by
    obtain ⟨hz, hI, ⟨u, v, hO⟩, ⟨o1, e1, c1, d1⟩, ⟨o2, e2, c2, d2⟩⟩ := Z
    simp only [List.mem_cons, List.not_mem_nil, or_false] at hc
    rcases hc with rfl | rfl | rfl | rfl | rfl
    · exact ⟨_, e1, fun v z => by rw [d1] at z; cases z⟩
    · exact ⟨_, e2, fun v z => by rw [d2] at z; cases z⟩
    · exact ⟨_, hI, fun v z => by cases z⟩
    · exact ⟨_, hO, fun v z => by cases z⟩
    · exact ⟨_, hz, fun v z => by cases z⟩
  keep := fun i h h' Z k => ⟨k _ (by simp) _ Z.z, k _ (by simp) _ Z.I, let ⟨u, v, q⟩ := Z.O; ⟨u, v, k _ (by simp) _ q⟩, Z.i1.at fun o e => k _ (by simp) o e, Z.i2.at fun o e => k _ (by simp) o e⟩
  item := by
    intro X hP hw hK hc i pins s σ H E I hf Z hg
    subst hP hw hK
    obtain ⟨xs, ys, q1, q2, hl, hi⟩ := hg
    obtain ⟨is1, r1, p1, _⟩ := I.tuple q1
    obtain ⟨is2, r2, p2, _⟩ := I.tuple q2
    obtain ⟨u, hu, ru⟩ := r1.get (i := i) (x := xs[i]) (by simp [hi])
    obtain ⟨v, hv, rv⟩ := r2.get (i := i) (x := ys[i]'(by omega)) (by simp [show i < ys.length by omega])
    refine zip_take (fun j _ => Nat.ne_of_lt (Nat.lt_of_lt_of_le ha (Nat.le_add_right ..))) (fun j _ => Nat.ne_of_lt (Nat.lt_of_lt_of_le hb (Nat.le_add_right ..))) Z (show s.heap.IsTuple a is1.toArray from p1) (show s.heap.IsTuple b is2.toArray from p2)
      (x := u) (y := v) (by simpa using hu) (by simpa using hv) fun g z1 O1 j1 m1 T1 k1 => ⟨_, rfl, wpAny_letOwnedTupleGo_zip z1 fun g2 z2 sb => ?_⟩
    have nT : s.heap.objs.size ≠ n + 4 := Nat.ne_of_gt (Heap.lt_size Z.z)
    have kk : ∀ c o, c ∉ [n, n + 1, n + 2, n + 3, n + 4] → s.heap.get? c = some o → g2.get? c = some o := fun c o hc e => by
      simp only [List.mem_cons, List.not_mem_nil, or_false, not_or] at hc
      exact (sb.2 c hc.2.2.2.2).trans (k1 c o hc.2.2.2.2 hc.2.2.2.1 hc.1 hc.2.1 e)
    have TT : IsPair g2 s.heap.objs.size u v := (sb.2 _ nT).trans T1
    have d : ∀ j, j < 4 → n + j ≠ n + 4 := fun j hj z => absurd (Nat.add_left_cancel z) (Nat.ne_of_lt hj)
    have I2 := I.turnedNew (T := s.heap.objs.size) (o := .tup [xs[i], ys[i]'(by omega)]) (rs := [n, n + 1, n + 2, n + 3, n + 4]) (t' := s.toks) hf kk (Nat.le_refl _) ⟨by show 2 ≤ sizeLine; decide, [u, v], .cons ru (.cons rv .nil), ⟨_, TT, rfl, _, rfl, rfl⟩⟩
    refine ⟨.ref s.heap.objs.size, _, I2, rfl, ⟨_, I.fresh, rfl, fun xs' ys' w1 w2 => ⟨xs[i], ys[i]'(by omega), ?_, ?_, rfl⟩⟩, ⟨z2, (sb.2 _ (d 2 (by decide))).trans (k1 _ _ (d 2 (by decide)) (by simp) (by simp) (by simp) Z.I), ⟨u, v, (sb.2 _ (d 3 (by decide))).trans O1⟩, j1.at fun o e => (sb.2 _ (d 0 (by decide))).trans e, m1.at fun o e => (sb.2 _ (d 1 (by decide))).trans e⟩, fun c hc => ?_⟩
    · rw [I.tuple_inj w1 q1]; simp [hi]
    · rw [I.tuple_inj w2 q2]; simp [show i < ys.length by omega]
    · rw [upd_ne (fun z => ?_)]
      · exact (hf c hc).1
      · obtain ⟨o, e, _⟩ : ∃ o, s.heap.get? c = some o ∧ True := by
          obtain ⟨hz, hI, ⟨u', v', hO⟩, ⟨o1, e1, c1, d1⟩, ⟨o2, e2, c2, d2⟩⟩ := Z
          simp only [List.mem_cons, List.not_mem_nil, or_false] at hc
          rcases hc with rfl | rfl | rfl | rfl | rfl
          · exact ⟨_, e1, trivial⟩
          · exact ⟨_, e2, trivial⟩
          · exact ⟨_, hI, trivial⟩
          · exact ⟨_, hO, trivial⟩
          · exact ⟨_, hz, trivial⟩
        exact absurd (Heap.lt_size e) (by rw [z]; exact Nat.lt_irrefl _)
  done := by
    intro X hP hw hK hc i pins s σ H E I hf Z hg
    subst hP hw hK
    obtain ⟨xs, q1, hx⟩ := hg
    obtain ⟨is1, r1, p1, _⟩ := I.tuple q1
    have hl := r1.length
    refine zip_stop (I.ok.hd hc) (fun j _ => Nat.ne_of_lt (Nat.lt_of_lt_of_le ha (Nat.le_add_right ..))) Z (show s.heap.IsTuple a is1.toArray from p1) (by simp; omega) fun g k => ⟨rfl, I.turnedL (rs := [n, n + 1, n + 2, n + 3, n + 4]) (t' := s.toks) hf fun c o hc e => ?_⟩
    simp only [List.mem_cons, List.not_mem_nil, or_false, not_or] at hc
    exact k c o hc.2.2.2.2 hc.1 e
  self := fun _ _ _ _ _ Z h => wpAny_pyIter_zip Z.z h
def iZip (K : PySem.W.Frag) (ta : TA) : TI := fun σ H R => ta σ H fun vs H1 => ∃ a b, vs = [.ref a, .ref b] ∧ (∃ xs, SqT K H1 a xs) ∧ (∃ ys, SqT K H1 b ys) ∧ R (Itz K a b) H1
theorem pi_zip {X : Cx} {a b : Expr} {ta : TA} {p pos : Pos} {elts : List Expr} {x1 : Nat} {tpos : Pos} (hg : Gl X "zip") (hm : X.mg "zip" = none) (ha : PA X [a, b] ta) (hs : starEach [a, b] X.env = [(false, eval a X.env), (false, eval b X.env)] := by rfl) (hs2 : starEach [b] X.env = [(false, eval b X.env)] := by rfl) :
    PI X (.Tuple elts x1 tpos) (.Call (.Name "zip" p) [a, b] [] pos) (iZip X.K ta) := by
  intro pins s σ H R I h
  refine wpAny_Call_Name_kw (ld_blt I hg hm PyProof.Rows.boot_zip (PyProof.Rows.callWith_type1 (thn (ha pos pins s σ H _ I h) fun us s1 ⟨vs, H1, I1, r1, q1⟩ => ?_) (by rw [hs, hs2]) (by rw [hs2]; rfl)))
  obtain ⟨a', b', rfl, ⟨xs, q1⟩, ⟨ys, q2⟩, q⟩ := q1
  obtain ⟨u, v, rfl, ru, rv⟩ := vals2 r1
  cases ru
  cases rv
  obtain ⟨is1, _, p1, _⟩ := I1.tuple q1
  obtain ⟨is2, _, p2, _⟩ := I1.tuple q2
  have la : a' < s1.heap.objs.size := by obtain ⟨o, e, _⟩ := p1; exact Heap.lt_size e
  have lb : b' < s1.heap.objs.size := by obtain ⟨o, e, _⟩ := p2; exact Heap.lt_size e
  refine call_zipT (show s1.heap.IsTuple a' is1.toArray from p1) (show s1.heap.IsTuple b' is2.toArray from p2) fun g Z k => wpAny_pyIter_zip Z.z ?_
  have I2 : Inv X pins σ H1 { s1 with heap := g } := I1.kept (t' := s1.toks) k
  refine ⟨s1.heap.objs.size + 4, _, _, Itz X.K a' b', H1, rfl, I2, turn_zip a' b' s1.heap.objs.size la lb, Z, fun c hc => ?_, q⟩
  have hge : s1.heap.objs.size ≤ c := by
    simp only [List.mem_cons, List.not_mem_nil, or_false] at hc
    rcases hc with rfl | rfl | rfl | rfl | rfl
    · exact Nat.le_refl _
    all_goals exact Nat.le_add_right ..
  exact I1.fpOk hge (I1.hok.fresh hge)
section
variable {g : TG} {tc : TT} {te : TE}
theorem comp_zip {K : PySem.W.Frag} {a b : Addr} {xs ys : List V} {Kf : List V → Hp → Prop} {σ0 : St} {H1 : Hp} (Pv : Nat → List V → St → Hp → Prop) (hz : xs.length < sizeLine) (hxy : xs.length = ys.length) (h0 : Pv 0 [] σ0 H1) (hb : ∀ i zs σ H, Pv i zs σ H → zs.length ≤ i)
    (hl : ∀ i zs σ H, i ≤ xs.length → Pv i zs σ H → SqT K H a xs ∧ SqT K H b ys)
    (hs : ∀ i x y zs σ H t, xs[i]? = some x → ys[i]? = some y → Pv i zs σ H → H t = none → g (.ref t) σ (upd H t (.tup [x, y])) fun σ2 H2 => tc σ2 H2 fun b H3 => if b = true then te σ2 H3 fun v H4 => Pv (i + 1) (zs ++ [v]) σ2 H4 else Pv (i + 1) zs σ2 H3)
    (hd : ∀ zs σ H, Pv xs.length zs σ H → Kf zs H) : CompW (Itz K a b) g tc te Kf σ0 H1 := by
  refine ⟨fun i m zs σ H => m = xs.length - i ∧ i ≤ xs.length ∧ Pv i zs σ H, ⟨xs.length, by simp, Nat.zero_le _, h0⟩, ?_⟩
  rintro i m zs σ H ⟨rfl, hi, p⟩
  obtain ⟨q1, q2⟩ := hl i zs σ H hi p
  refine ⟨Nat.lt_of_le_of_lt (hb _ _ _ _ p) (Nat.lt_of_le_of_lt hi hz), ?_⟩
  by_cases hlt : i < xs.length
  · refine .inr ⟨⟨xs, ys, q1, q2, hxy, hlt⟩, Pv (i + 1), fun zs' σ' H' p' => ⟨xs.length - (i + 1), Nat.sub_lt_sub_left hlt (Nat.lt_succ_self i), rfl, hlt, p'⟩, fun x H' y => ?_⟩
    obtain ⟨t, ht, rfl, w⟩ := y
    obtain ⟨u, v, e1, e2, rfl⟩ := w xs ys q1 q2
    exact hs i u v zs σ H t e1 e2 p ht
  · have e : i = xs.length := by omega
    subst e
    exact .inl ⟨⟨xs, q1, Nat.le_refl _⟩, hd zs σ H p⟩
end
end L2
namespace L2
open PySem PySem.Spec PyProof.Rows
/-! ### texts -/
def Its (x : Str) : It := ⟨fun i _ => i < x.length, fun i H v H' => H' = H ∧ ∃ c, x.cps[i]? = some c ∧ v = .str ⟨#[c]⟩, fun i _ => x.length ≤ i⟩
theorem str_len (x : Str) : x.length = x.cps.size := rfl
theorem turn_str {P : Program} {w : World} {K : PySem.W.Frag} {tg : Expr} {ty : String} (hty : ty = "str_ascii_iterator" ∨ ty = "str_iterator") (it : Addr) (x : Str) (t : Tok) : Turn P w K tg (Its x) [it] it (fun i h => i ≤ x.length ∧ h.IsStrIter it ty x t i) := by
  have W : ∀ A : Around, A.handled = none → Walks P w A it [it] [it] x.cps.size (SignAt x) (fun i h => h.IsStrIter it ty x t i) := by
    intro A hA
    rcases hty with rfl | rfl
    · exact Walks.strAscii hA it x t
    · exact Walks.strWide hA it x t
  have hn : ["enumerate", "zip", "dict_itemiterator", "dict_reverseitemiterator", "odict_iterator", "itertools.zip_longest", "itertools.pairwise"].contains ty = false := by
    rcases hty with rfl | rfl <;> decide
  exact {
    mem := by simp
    obj := fun i h st b hb => by
      have e : b = it := by simpa using hb
      subst e
      obtain ⟨o, e, c, d⟩ := st.2
      exact ⟨o, e, fun v z => by rw [d] at z; cases z⟩
    keep := fun i h h' st k => ⟨st.1, by
      obtain ⟨o, e, r⟩ := st.2
      exact ⟨o, k it (by simp) o e, r⟩⟩
    item := by
      intro X hP hw hK hc i pins s σ H E I hf st hg
      subst hP hw hK
      obtain ⟨f0, f1, f2, f3, f4, f5⟩ := hf it (by simp)
      have hg : i < x.length := hg
      refine (W X.A (I.ok.hd hc)).item i s _ _ hg st.2 fun v h' tk hv st' kk => ?_
      obtain ⟨c, u, hcx, rfl⟩ := hv
      have I1 : Inv X pins σ H { s with heap := h', toks := tk } := I.turned (fun b o hb e => kk b o (by simpa using hb) e) f0 f1 f3 f4 f5
      obtain ⟨o, e, c1, d⟩ := id st'
      exact ⟨_, rfl, go_of (s := { s with heap := h', toks := tk }) e c1 d hn ⟨.str ⟨#[c]⟩, H, I1, ⟨u, rfl⟩, ⟨rfl, c, hcx, rfl⟩, ⟨hg, st'⟩, fun b hb => (hf b hb).1⟩⟩
    done := by
      intro X hP hw hK hc i pins s σ H E I hf st hg
      subst hP hw hK
      obtain ⟨f0, f1, f2, f3, f4, f5⟩ := hf it (by simp)
      have hg : x.length ≤ i := hg
      have e : i = x.cps.size := by have := st.1; rw [str_len] at this hg; omega
      subst e
      refine (W X.A (I.ok.hd hc)).done s _ _ st.2 fun h' tk kk => ⟨rfl, I.turned (fun b o hb e => kk b o (by simpa using hb) e) f0 f1 f3 f4 f5⟩
    self := fun A i s Q E st h => by
      rcases hty with rfl | rfl
      · exact wpAny_pyIter_striter_ascii st.2 h
      · exact wpAny_pyIter_striter_wide st.2 h }
section
variable {X : Cx} {tg : Expr}
def iStr (tl : TE) : TI := fun σ H R => tl σ H fun x H1 => ∃ z, x = .str z ∧ R (Its z) H1
theorem pi_str {l : Expr} {tl : TE} (hl : PE X l tl) : PI X tg l (iStr tl) := by
  intro pins s σ H R I h
  refine thn (hl pins s σ H _ I h) fun v s1 ⟨x, H1, I1, r1, z, e, q⟩ => ?_
  subst e
  obtain ⟨t, rfl⟩ := r1
  have fin : ∀ (o : Obj) (ty : String), (ty = "str_ascii_iterator" ∨ ty = "str_iterator") → (s1.heap.push o).IsStrIter s1.heap.objs.size ty z t 0 → PIE X pins σ tg R (.ref s1.heap.objs.size) { s1 with heap := s1.heap.push o } := fun o ty hty hi =>
    ⟨s1.heap.objs.size, [s1.heap.objs.size], _, _, H1, rfl, I1.kept (t' := s1.toks) fun b o e => Heap.get?_push_of_some _ e, turn_str hty _ z t, ⟨Nat.zero_le _, hi⟩, fun b hb => by
      have e : b = s1.heap.objs.size := by simpa using hb
      subst e
      exact I1.fpOk (Nat.le_refl _) (I1.hok.fresh (Nat.le_refl _)), q⟩
  cases ha : z.cps.all (· < 128)
  · exact wpAny_pyIter_wide ha (fin _ _ (.inr rfl) ⟨_, Heap.get?_push_size _ rfl, rfl, rfl⟩)
  · exact wpAny_pyIter_ascii ha (fin _ _ (.inl rfl) ⟨_, Heap.get?_push_size _ rfl, rfl, rfl⟩)
theorem comp_str {x : Str} {g : TG} {tc : TT} {te : TE} {Kf : List V → Hp → Prop} {σ0 : St} {H1 : Hp} (Pv : Nat → List V → St → Hp → Prop) (hz : x.length < sizeLine) (h0 : Pv 0 [] σ0 H1) (hb : ∀ i ys σ H, Pv i ys σ H → ys.length ≤ i)
    (hs : ∀ i c ys σ H, x.cps[i]? = some c → Pv i ys σ H → g (.str ⟨#[c]⟩) σ H fun σ2 H2 => tc σ2 H2 fun b H3 => if b = true then te σ2 H3 fun y H4 => Pv (i + 1) (ys ++ [y]) σ2 H4 else Pv (i + 1) ys σ2 H3) (hd : ∀ ys σ H, Pv x.length ys σ H → Kf ys H) : CompW (Its x) g tc te Kf σ0 H1 := by
  refine ⟨fun i m ys σ H => m = x.length - i ∧ i ≤ x.length ∧ Pv i ys σ H, ⟨x.length, by simp, Nat.zero_le _, h0⟩, ?_⟩
  rintro i m ys σ H ⟨rfl, hi, p⟩
  refine ⟨Nat.lt_of_le_of_lt (hb _ _ _ _ p) (Nat.lt_of_le_of_lt hi hz), ?_⟩
  by_cases hlt : i < x.length
  · refine .inr ⟨hlt, Pv (i + 1), fun ys' σ' H' p' => ⟨x.length - (i + 1), Nat.sub_lt_sub_left hlt (Nat.lt_succ_self i), rfl, hlt, p'⟩, fun v H' y => ?_⟩
    obtain ⟨e, c, hc, ev⟩ := y
    subst e ev
    exact hs i c ys σ _ hc p
  · have e : i = x.length := by omega
    subst e
    exact .inl ⟨Nat.le_refl _, hd ys σ H p⟩
/-- x[lo:hi] of a text -/
def rSlS : V → Option Int → Option Int → Hp → VK → Prop := fun x lo hi H Q => ∃ z, x = .str z ∧ z.length ≤ sizeLine ∧ Q (.str (Txt.slice z lo hi)) H
theorem sl_str : SlR X rSlS := by
  intro pins s σ H x v vl vu lo hi sl Q I rx hs pl pu h
  obtain ⟨z, rfl, hz, q⟩ := h
  obtain ⟨t, rfl⟩ := rx
  refine ⟨"str", _, F.slot_str_getitem.lookup, typeIs_str _ _ _, ?_⟩
  have fin : ∀ {lo hi : Option Int}, Q (.str (Txt.slice z lo hi)) H → ∀ t' k, EP X pins σ Q (.str (Txt.slice z lo hi) t') { s with toks := k } := fun q t' k => ⟨.str _, H, I.tok k, ⟨_, rfl⟩, q⟩
  cases pl with
  | none =>
    cases pu with
    | none => exact wpAny_getItem_str_slice (l := none) (u := none) (st := none) hs rfl (post_val_or_str ⟨Nat.le_trans (Txt.slice_le z _ _) hz, fin q⟩)
    | int j u => exact wpAny_getItem_str_slice (l := none) (u := some (j, u)) (st := none) hs rfl (post_val_or_str ⟨Nat.le_trans (Txt.slice_le z _ _) hz, fin q⟩)
  | int i u' =>
    cases pu with
    | none => exact wpAny_getItem_str_slice (l := some (i, u')) (u := none) (st := none) hs rfl (post_val_or_str ⟨Nat.le_trans (Txt.slice_le z _ _) hz, fin q⟩)
    | int j u => exact wpAny_getItem_str_slice (l := some (i, u')) (u := some (j, u)) (st := none) hs rfl (post_val_or_str ⟨Nat.le_trans (Txt.slice_le z _ _) hz, fin q⟩)
theorem strsAre_of : ∀ {ys : List Str} {us : List Value}, Vals (ys.map V.str) us → StrsAre us ys
  | [], _, r => by
    cases r
    exact .nil
  | y :: ys, _, r => by
    cases r with
    | cons r1 r2 =>
      obtain ⟨t, rfl⟩ := r1
      exact .cons y t (strsAre_of r2)
/-- sep.join(list of texts) -/
def rJoin (K : PySem.W.Frag) : V → List V → Hp → VK → Prop := fun x vs H Q => ∃ (sep : Str) (p : Addr) (ys : List Str), x = .str sep ∧ vs = [.ref p] ∧ SqL K H p (ys.map V.str) ∧ (ys.map (·.length)).sum + ys.length * sep.length ≤ 16777216 ∧ Q (.str (Txt.join sep ys)) H
theorem mt_join : MtR X "str.join" (rJoin X.K) := by
  intro pins s σ H x xs v us Q I rx rs h
  obtain ⟨sep, p, ys, rfl, rfl, hq, hz, q⟩ := h
  obtain ⟨t, rfl⟩ := rx
  obtain ⟨u, rfl, ru⟩ := rs.one
  cases ru
  obtain ⟨its, rv, pl, _⟩ := I.list hq
  exact join_list pl.isList (by simpa using strsAre_of rv) hz fun t' k => ⟨.str _, H, I.tok k, ⟨_, rfl⟩, q⟩
end
end L2
namespace L2
open PySem PySem.Spec PyProof.Rows
/-! ### enumerate of a list, walked -/
/-! ### sum of a list of ints -/
section
variable {X : Cx}
end
end L2
namespace L2
open PySem PySem.Spec PyProof.Rows
end L2
namespace L2
open PySem PySem.Spec PyProof.Rows
/-! ### a dict's keys, walked: the dict is frozen from then on -/
end L2
namespace L2
open PySem PySem.Spec PyProof.Rows
section
variable {X : Cx}
variable {g : TG} {tc : TT} {te : TE}
end
end L2
namespace L2
open PySem PySem.Spec PyProof.Rows
open AutoSeq1 (wpAny_loadPart')
/-! ### enumerate of a tuple, walked -/
section
variable {prog : Program} {w : World} {A : Around} {E : Value → Shared → Prop} {s : Shared}
end
section
variable {prog : Program} {w : World} {A : Around} {E : Value → Shared → Prop} {s : Shared}
end
end L2
namespace L2
open PySem PySem.Spec PyProof.Rows
/-! ### dict(t), t a tuple of pairs -/
section
variable {prog : Program} {w : World} {A : Around} {E : Value → Shared → Prop} {s : Shared}
end
section
variable {X : Cx} {pins : List (Addr × Obj)} {σ : St} {H : Hp} {s : Shared} {a : Addr} {y v : V} {u r : Value} {A : Around} {E : Value → Shared → Prop}
end
end L2
namespace L2
open PySem PySem.Spec PyProof.Rows
section
variable {X : Cx} {pins : List (Addr × Obj)} {σ : St} {H : Hp} {s : Shared} {A : Around} {E : Value → Shared → Prop}
end
end L2
namespace L2
open PySem PySem.Spec PyProof.Rows PySem.W
/-! ### sorted of a list of tuples of ints: some order of the same ones -/
section
variable {n : Nat} (h0 : 0 < n)
include h0
end
end L2
namespace L2
open PySem PySem.Spec PyProof.Rows PySem.W HT
section
variable {prog : Program} {w : World} {A : Around} {E : Value → Shared → Prop} {s : Shared}
end
end L2
namespace L2
open PySem PySem.Spec PyProof.Rows PySem.W HT
section
variable {prog : Program} {w : World} {A : Around} {E : Value → Shared → Prop} {s : Shared}
end
/-! ### x in a list of plain data -/
def rInD (K : PySem.W.Frag) : R2 := fun x y H Q => ∃ ds d, RepD K H (.list ds) y ∧ RepD K H d x ∧ SeqAt.shaped (.list ds) = true ∧ SeqAt.shaped d = true ∧ (∀ e ∈ ds, SeqAt.noMix e d = true) ∧ Q (.bl (decide (Spec.countIn d ds ≠ 0))) H
theorem op_inD {X : Cx} {k : Nat} (hr : Room k X.A) : OpR X (compareOp .In) (rInD X.K) := by
  intro pins s σ H x y v u Q I rx ry h
  obtain ⟨ds, d, hd, he, sd, se, mx, q⟩ := h
  obtain ⟨as, ra⟩ := RepD.reads I _ y u hd ry
  obtain ⟨bs, rb⟩ := RepD.reads I d x v he rx
  exact in_list_dataH ra rb sd se (by have := hr.un; omega) mx ⟨.bl _, H, I, rfl, q⟩
end L2
namespace L2
open PySem PySem.Spec PyProof.Rows
/-! ### zip of two tuples of one length: its records stand at n .. n + 4 -/
section
variable {prog : Program} {w : World} {A : Around} {E : Value → Shared → Prop} {s : Shared}
end
section
variable {prog : Program} {w : World} {A : Around} {E : Value → Shared → Prop} {s : Shared}
end
/-! ### the walk over a zip of two tuples of one length -/
section
variable {g : TG} {tc : TT} {te : TE}
end
end L2
namespace L2
open PySem PySem.Spec PyProof.Rows
/-! ### t + u, u not empty -/
section
variable {X : Cx}
/-! ### repr of plain data, None too -/
end
end L2
namespace L2
open PySem PySem.Spec PyProof.Rows
/-! ### the walk over reversed(a list) -/
end L2
namespace L2
open PySem PySem.Spec PyProof.Rows
section
variable {X : Cx}
/-! ### xs[::-1] -/
end
end L2
namespace L2
open PySem PySem.Spec PyProof.Rows
section
variable {X : Cx}
/-! ### z.index(y) -/
/-! ### dict(d), d a dict of ints and texts -/
/-! ### a display of pairs of numbers -/
def pairOf : Expr → Option (Int × Int)
  | .Tuple [.Constant (.int a) _ _, .Constant (.int b) _ _] _ _ => some (a, b)
  | _ => none
def pairsOf : List Expr → Option (List (Int × Int))
  | [] => some []
  | e :: r => match pairOf e, pairsOf r with
    | some p, some ps => some (p :: ps)
    | _, _ => none
/-- the tuples of the pairs, at new addresses -/
def PairsAt (H : Hp) : List V → List (Int × Int) → Prop
  | [], [] => True
  | v :: vs, p :: ps => (∃ a, v = .ref a ∧ H a = some (.tup [.int p.1, .int p.2])) ∧ PairsAt H vs ps
  | _, _ => False
def tPairsC (ps : List (Int × Int)) : TA := fun _ H Q => ∀ vs H', Same H H' → PairsAt H' vs ps → Q vs H'
theorem pa_pairs : ∀ {es : List Expr} {ps : List (Int × Int)}, pairsOf es = some ps → PA X es (tPairsC ps)
  | [], ps, h => by
    cases h
    exact fun _ _ _ _ H Q I q => Calls.spliced_nil ⟨[], H, I, .nil, q [] H (Same.refl _) trivial⟩
  | e :: r, ps, h => by
    have h : (match pairOf e, pairsOf r with | some p, some qs => some (p :: qs) | _, _ => none) = some ps := h
    cases h1 : pairOf e with
    | none => rw [h1] at h; cases h
    | some p =>
      cases h2 : pairsOf r with
      | none => rw [h1, h2] at h; cases h
      | some qs =>
        rw [h1, h2] at h
        cases h
        unfold pairOf at h1
        split at h1
        · rename_i a x1 x2 b x3 x4 x5 x6
          cases h1
          intro pos pins s σ H Q I q
          have ih := pa_pairs (es := r) (ps := qs) h2
          have he := @pe_tup X [.Constant (.int a) x1 x2, .Constant (.int b) x3 x4] _ x6 x5 (pa_cons pe_int (pa_cons pe_int pa_nil))
          show wpAny _ _ (spliced ((false, eval _ X.env) :: backTo pos (starEach r X.env))) _ _ s
          refine Calls.spliced_cons (thn (he pins s σ H (fun v H1 => ∃ t, H t = none ∧ v = .ref t ∧ H1 = upd H t (.tup [.int a, .int b])) I ⟨by show 2 ≤ sizeLine; decide, fun t ht => ⟨t, ht, rfl, rfl⟩⟩) fun u s1 ⟨v, H1, I1, r1, t, ht, ev, eH⟩ => ?_)
          subst ev eH
          refine thn (ih pos pins s1 σ _ (fun vs H' => Same (upd H t (.tup [.int a, .int b])) H' ∧ PairsAt H' vs qs) I1 fun vs H' s' p' => ⟨s', p'⟩) fun us s2 ⟨xs, H2, I2, r2, s', p'⟩ => ⟨.ref t :: xs, H2, I2, .cons r1 r2, q _ H2 ((same_new ht _).trans s') ⟨⟨t, rfl, s' _ _ upd_same⟩, p'⟩⟩
        · cases h1
/-! ### t + u, any tuples -/
end
end L2
namespace L2
open PySem PySem.Spec PyProof.Rows
section
variable {prog : Program} {w : World} {A : Around} {E : Value → Shared → Prop} {s : Shared}
end
section
variable {X : Cx} {pins : List (Addr × Obj)} {σ : St} {H : Hp} {s : Shared} {A : Around} {E : Value → Shared → Prop}
end
end L2
namespace L2
open PySem PySem.Spec PyProof.Rows
section
variable {prog : Program} {w : World} {K : Type} [DecidableEq K] {knd : KeyKind prog w K} {A : Around} {E : Value → Shared → Prop} {s : Shared}
end
section
variable {X : Cx}
end
end L2
namespace L2
open PySem PySem.Spec PyProof.Rows
section
variable {X : Cx}
end
end L2
namespace L2
open PySem PySem.Spec PyProof.Rows
end L2
namespace L2
open PySem PySem.Spec PyProof.Rows
section
variable {X : Cx}
/-- a test with a wish of one's own: its ways are joined behind it -/
def tPost (t : TT) : TT := fun σ H Q => ∃ P : Bool → Hp → Prop, t σ H P ∧ ∀ b G, P b G → Q b G
theorem pt_post {e : Expr} {t : TT} (h : PT X e t) : PT X e (tPost t) := by
  intro pins s σ H Q I ⟨P, h1, h2⟩
  exact thn (h pins s σ H P I h1) fun b s' ⟨G, I', p⟩ => ⟨G, I', h2 b G p⟩
/-- a statement whose ways on are joined behind it -/
def sPost (t : TS) : TS := fun D σ H => ∃ P : St → Hp → Prop, t { D with nx := P } σ H ∧ ∀ σ' G, P σ' G → D.nx σ' G
theorem ps_post {st : Stmt} {t : TS} (h : PS X st t) : PS X st (sPost t) := by
  intro pins s σ H D I ⟨P, h1, h2⟩
  refine thn (h pins s σ H _ I h1) fun f s' q => ?_
  cases f with
  | next =>
    obtain ⟨σ', G, I', p⟩ := q
    exact ⟨σ', G, I', h2 σ' G p⟩
  | ret v => exact q
  | brk => exact q
  | cont => exact q
end
end L2
namespace L2
open PySem PySem.Spec PyProof.Rows
section
variable {X : Cx} {o e : Expr} {es : List Expr} {to : TE} {t : TA} {name : Str} {apos cpos : Pos} {T id : String} {r : V → List V → Hp → VK → Prop}
end
end L2
namespace L2
open PySem PySem.Spec PyProof.Rows
end L2
namespace L2
open PySem PySem.Spec PyProof.Rows
section
variable {X : Cx}
/-! ### methods of texts -/
def rRstrip : V → List V → Hp → VK → Prop := fun x vs H Q => ∃ (z y : Str), x = .str z ∧ vs = [.str y] ∧ z.length ≤ sizeLine ∧ Q (.str (Txt.rstripChars z y)) H
theorem mt_rstrip : MtR X "str.rstrip" rRstrip := by
  intro pins s σ H x xs v us Q I rx rs h
  obtain ⟨z, y, rfl, rfl, hz, q⟩ := h
  obtain ⟨t, rfl⟩ := rx
  obtain ⟨u, rfl, ru⟩ := rs.one
  obtain ⟨tu, rfl⟩ := ru
  exact call_gives F.slot_str_rstrip (typeIs_str _ _ _) F.entry_str_rstrip (F.args_str_rstrip_2 _ _) (gives_str_rstrip_chars z y t tu) (post_val_or_made (fun _ => fits_stripped _ _ _ hz) fun t' k => ⟨.str _, H, I.tok k, ⟨_, rfl⟩, q⟩)
def rStarts : V → List V → Hp → VK → Prop := fun x vs H Q => ∃ (z y : Str), x = .str z ∧ vs = [.str y] ∧ Q (.bl (Txt.startswith z y)) H
theorem mt_startswith : MtR X "str.startswith" rStarts := by
  intro pins s σ H x xs v us Q I rx rs h
  obtain ⟨z, y, rfl, rfl, q⟩ := h
  obtain ⟨t, rfl⟩ := rx
  obtain ⟨u, rfl, ru⟩ := rs.one
  obtain ⟨tu, rfl⟩ := ru
  exact call_gives F.slot_str_startswith (typeIs_str _ _ _) F.entry_str_startswith (F.args_str_startswith_2 _ _) (gives_str_startswith z y t tu) ⟨.bl _, H, I, rfl, q⟩
def rCount : V → List V → Hp → VK → Prop := fun x vs H Q => ∃ (z y : Str), x = .str z ∧ vs = [.str y] ∧ Q (.int (Txt.count z y)) H
theorem mt_count : MtR X "str.count" rCount := by
  intro pins s σ H x xs v us Q I rx rs h
  obtain ⟨z, y, rfl, rfl, q⟩ := h
  obtain ⟨t, rfl⟩ := rx
  obtain ⟨u, rfl, ru⟩ := rs.one
  obtain ⟨tu, rfl⟩ := ru
  exact call_gives F.slot_str_count (typeIs_str _ _ _) F.entry_str_count (F.args_str_count_2 _ _) (gives_str_count z y t tu) ⟨.int _, H, I.tok _, ⟨_, rfl⟩, q⟩
theorem vals_numbered : ∀ (l : List (Str × Tok)), Vals ((l.map (·.1)).map V.str) (strValues l)
  | [] => .nil
  | p :: r => .cons ⟨_, rfl⟩ (vals_numbered r)
def rSplit : V → List V → Hp → VK → Prop := fun x vs H Q => ∃ (z : Str) (c : Nat), x = .str z ∧ vs = [.str ⟨#[c]⟩] ∧ z.length ≤ 1000000 ∧ ∀ l, H l = none → Q (.ref l) (upd H l (.lst ((Txt.split z ⟨#[c]⟩).map V.str)))
theorem split_len (x y : Str) : (Txt.split x y).length ≤ x.length + 2 := by
  unfold Txt.split
  split
  · simp
  · split
    · simp
    · unfold Builtin.Str.partsBetween
      have := StrLaws.occ_length_le_len x y 0 x.length (x.length + 1)
      simp only [List.length_map, List.length_zip, List.length_cons, List.length_append, List.length_nil]
      omega
theorem mt_split : MtR X "str.split" rSplit := by
  intro pins s σ H x xs v us Q I rx rs h
  obtain ⟨z, c, rfl, rfl, hz, q⟩ := h
  obtain ⟨t, rfl⟩ := rx
  obtain ⟨u, rfl, ru⟩ := rs.one
  obtain ⟨tu, rfl⟩ := ru
  have hx : z.length ≤ sizeLine := by rw [sizeLine_eq]; omega
  have sl := split_len z ⟨#[c]⟩
  have fin : ∀ (l : List (Str × Tok)) (tk : Nat), l.map (·.1) = Txt.split z ⟨#[c]⟩ → EP X pins σ Q (.ref s.heap.objs.size) { s with toks := tk, heap := s.heap.push { cls := .type "list", data := .seq (strValues l).toArray } } := fun l tk e => by
    refine ⟨.ref s.heap.objs.size, _, I.laid (t' := tk) (o := .lst ((Txt.split z ⟨#[c]⟩).map V.str)) (fun b o e => Heap.get?_push_of_some _ e) (Nat.le_refl _) ?_, rfl, q _ (I.hok.fresh (Nat.le_refl _))⟩
    refine ⟨by rw [List.length_map, sizeLine_eq]; omega, strValues l, _, ?_, Heap.get?_push_size _ rfl⟩
    rw [← e]
    exact vals_numbered l
  cases h1 : (decide (z.length < (⟨#[c]⟩ : Str).length) || decide (Builtin.Str.strKind z < Builtin.Str.strKind ⟨#[c]⟩))
  · cases hf : (Builtin.Str.occurrences z ⟨#[c]⟩ 0 z.length (z.length + 1)).isEmpty
    · have e : Txt.split z ⟨#[c]⟩ = Builtin.Str.partsBetween z (Builtin.Str.occurrences z ⟨#[c]⟩ 0 z.length (z.length + 1)) (⟨#[c]⟩ : Str).length := (if_neg (ne_true_of_eq_false h1)).trans (if_neg (ne_true_of_eq_false hf))
      refine call_meets F.slot_str_split (typeIs_str _ _ _) F.entry_str_split (F.args_str_split_2 _ _) (meets_str_split_sep z ⟨#[c]⟩ t tu h1 rfl hf hx (by rw [← e, sizeLine_eq]; omega)) ?_
      show EP X pins σ Q _ { s with toks := _, heap := s.heap.push { cls := .type "list", data := .seq (strsFrom s.toks (Builtin.Str.partsBetween z (Builtin.Str.occurrences z ⟨#[c]⟩ 0 z.length (z.length + 1)) (⟨#[c]⟩ : Str).length)).toArray } }
      rw [strsFrom_eq]
      exact fin (numbered s.toks _) _ ((numbered_texts _ _).trans e.symm)
    · exact call_meets F.slot_str_split (typeIs_str _ _ _) F.entry_str_split (F.args_str_split_2 _ _) (meets_str_split_not_found z ⟨#[c]⟩ t tu h1 rfl hf) (fin [(z, t)] s.toks ((if_neg (ne_true_of_eq_false h1)).trans (if_pos hf)).symm)
  · exact call_meets F.slot_str_split (typeIs_str _ _ _) F.entry_str_split (F.args_str_split_2 _ _) (meets_str_split_cannot_occur z ⟨#[c]⟩ t tu h1) (fin [(z, t)] s.toks (if_pos h1).symm)
/-! ### str(x), int(text) -/
theorem call_str1 : CallR X (.type "str") (fun xs H Q => (∃ i : Int, xs = [.int i] ∧ i.natAbs.log2 < 1920 ∧ Q (.str (toString i)) H) ∨ ∃ z, xs = [.str z] ∧ Q (.str z) H) := by
  intro pins s σ H xs us Q I r h
  rcases h with ⟨i, rfl, hi, q⟩ | ⟨z, rfl, q⟩
  · obtain ⟨u, rfl, t, rfl⟩ := vals1 r
    exact PySem.P.str_of_int hi ⟨.str _, H, I.tok _, ⟨_, rfl⟩, q⟩
  · obtain ⟨u, rfl, t, rfl⟩ := vals1 r
    exact PySem.P.str_of_str ⟨.str z, H, I, ⟨_, rfl⟩, q⟩
theorem call_intS : CallR X (.type "int") (fun xs H Q => (∃ (z : Str) (n : Int), xs = [.str z] ∧ intText? z = some n ∧ z.length ≤ 640 ∧ Q (.int n) H) ∨ (∃ i, xs = [.int i] ∧ Q (.int i) H) ∨ ∃ k, xs = [.bl k] ∧ Q (.int (if k then 1 else 0)) H) := by
  intro pins s σ H xs us Q I r h
  rcases h with ⟨z, n, rfl, hn, hz, q⟩ | h
  · obtain ⟨u, rfl, t, rfl⟩ := vals1 r
    exact PySem.W.KIN.call_text hn hz ⟨.int n, H, I.tok _, ⟨_, rfl⟩, q⟩
  · exact call_int1 pins s σ H xs us Q I r h
/-! ### texts compared -/
theorem op_leS : OpR X (compareOp .LtE) (fun x y H Q => ∃ i j, x = .str i ∧ y = .str j ∧ Q (.bl (!decide (j.cps.toList < i.cps.toList))) H) := by
  intro pins s σ H x y v u Q I rx ry h
  obtain ⟨i, j, rfl, rfl, q⟩ := h
  obtain ⟨t, rfl⟩ := rx
  obtain ⟨t', rfl⟩ := ry
  exact PySem.P.le_str ⟨.bl _, H, I, rfl, q⟩
end
end L2
namespace L2
open PySem PySem.Spec PyProof.Rows
/-! ### an own exception, of own classes above it, with an __init__ of its own -/
abbrev xArgs (rest : List Value) : Obj := { cls := .type "tuple", data := .seq rest.toArray }
abbrev xObj (C t : Addr) : Obj := { cls := .ref C, data := .fields #[.ref t, .none, .none, .none, .bool false, .none] }
/-- the heap behind __new__: the arguments' tuple, then the exception -/
abbrev xHeap (h : Heap) (C : Addr) (rest : List Value) : Heap := (h.push (xArgs rest)).push (xObj C h.objs.size)
section
variable {prog : Program} {w : World} {A : Around} {E : Value → Shared → Prop} {h : Heap} {g : Array GenState} {d : Drawn} {t : Nat} {os : OsState}
variable {nm q : Str} {C N fI : Addr} {bs bm bmB bmN : List Value} {hdct : Bool} {sn : List Str} {sub : List Value} {ab : Bool} {col : Option Bool} {dd : Option Addr} {k0 k1 k2 k3 k5 : Option Value} {B Bn newId nid inN initId : String}
theorem xHeap_old {b : Addr} {o : Obj} {rest : List Value} (e : h.get? b = some o) : (xHeap h C rest).get? b = some o := Heap.get?_push_of_some _ (Heap.get?_push_of_some _ e)
theorem xHeap_new {rest : List Value} : (xHeap h C rest).get? (h.objs.size + 1) = some (xObj C h.objs.size) := by heap_get
theorem type_call_x (Fn : ExcBaseFacts Bn newId inN bmN) (hBn : bmB.contains (.type Bn) = true) (F : ExcBaseFacts B nid initId bmB) (T : OwnTail h bmB bm) {mN : Str → Option Value} {rest : List Value} {oI : Obj} {Q : Fin → Shared → Prop}
    (hC : h.get? C = some (excClassObj nm q C N bs bm hdct sn sub ab col dd k0 k1 k2 k3 k5 newId)) (hn : h.Ns N mN) (hi : mN "__init__" = some (.ref fI)) (ho : h.get? fI = some oI) (hf : oI.cls = .type "function") (hz : rest.length ≤ sizeLine)
    (k : wpAny (model prog w) A (call (.ref fI) (.ref (h.objs.size + 1) :: rest)) (fun r s' => r = .none ∧ Q (.done (.ret (.ref (h.objs.size + 1)))) s') E ⟨xHeap h C rest, g, d, t, os⟩) :
    wpAny (model prog w) A (Builtin.«type.__call__» ⟨.ref C :: rest, []⟩) Q E ⟨h, g, d, t, os⟩ := by
  repeat (first | with_reducible refine wpAny_loadPart_at hC ?_ | with_reducible refine wpAny_madeBy_exc hC ?_ | wp_step)
  refine codeAny_call_builtin_code (Code.quiet_builtin _ Fn.quiet) (wpAny_check_new_subU Fn hBn T hC (codeAny_exc_new_subU Fn hBn F T hC ?_ hz))
  show wpAny _ _ _ _ _ ⟨xHeap h C rest, g, d, t, os⟩
  have c2 := xHeap_old (C := C) (rest := rest) hC
  have n2 : (xHeap h C rest).Ns N mN := let ⟨o, es, ep, e, r⟩ := hn; ⟨o, es, ep, xHeap_old e, r⟩
  have T2 : OwnTail (xHeap h C rest) bmB bm := T.keeps fun b o e => xHeap_old e
  have self : (Value.ref C :: bm).contains (.ref C) = true := by simp
  have x2 := xHeap_new (h := h) (C := C) (rest := rest)
  unfold isInstance
  repeat (first | with_reducible refine wpAny_loadPart_at x2 ?_ | (with_reducible refine wpAny_isSubtype_exc c2 ?_; rw [self]) | wp_step)
  show wpAny _ _ (typeLookup (.ref C) _) _ _ _
  refine wpAny_typeLookup_tail c2 n2 T2 F.mroIs F.init.lookup ?_
  rw [hi]
  refine wpAny_holding (wpAny_bind ?_)
  unfold bindSpecial
  refine wpAny_bind (wpAny_typeOf (T := "function") ⟨_, xHeap_old ho, hf⟩ ?_)
  rw [if_pos (by decide)]
  refine wpAny_pure (wpAny_bind (wpAny_mono k (fun r s' z => ?_) fun _ _ z => z))
  obtain ⟨rfl, z⟩ := z
  wp_walk
  exact z
/-- C(..), whole -/
theorem call_x (Fn : ExcBaseFacts Bn newId inN bmN) (hBn : bmB.contains (.type Bn) = true) (F : ExcBaseFacts B nid initId bmB) (T : OwnTail h bmB bm) {mN : Str → Option Value} {rest : List Value} {oI : Obj} {Q : Value → Shared → Prop}
    (hC : h.get? C = some (excClassObj nm q C N bs bm hdct sn sub ab col dd k0 k1 k2 k3 k5 newId)) (hn : h.Ns N mN) (hi : mN "__init__" = some (.ref fI)) (ho : h.get? fI = some oI) (hf : oI.cls = .type "function") (hz : rest.length ≤ sizeLine)
    (k : wpAny (model prog w) (A.under (.builtin "type.__call__" ⟨.ref C :: rest, []⟩)) (call (.ref fI) (.ref (h.objs.size + 1) :: rest)) (fun r s' => r = .none ∧ Q (.ref (h.objs.size + 1)) s') E ⟨xHeap h C rest, g, d, t, os⟩) :
    wpAny (model prog w) A (call (.ref C) rest) Q E ⟨h, g, d, t, os⟩ := by
  have a1 := tc_lookup
  have a2 := tc_bind (.ref C)
  have ty : (⟨h, g, d, t, os⟩ : Shared).TypeIs (.ref C) "type" := ⟨_, hC, rfl⟩
  refine wpAny_call (codeAny_of_tree ?_)
  show wpAny _ _ (callAny (.ref C) ⟨rest, []⟩) _ _ _
  repeat (any_goals (first | assumption | with_reducible refine wpAny_loadPart_at hC ?_ | wp_step))
  refine ⟨rfl, codeAny_call_builtin_at (Code.quiet_builtin _ (by decide +kernel)) entry_typeCall (wpAny_check_type_call_sub hC (type_call_x Fn hBn F T hC hn hi ho hf hz k))⟩
end
/-! ### what of this the fragment tells -/
/-- a dict of the fragment whose keys are texts alone -/
def textKeys (K : PySem.W.Frag) (N : Addr) : Bool := match K.lookup N with
  | some ⟨_, _, .dict es _, _⟩ => es.toList.all fun e => match e.key with | .str _ _ => true | _ => false
  | _ => false
theorem ns_of_text {K : PySem.W.Frag} {h : Heap} {N : Addr} (X : K.In h) (e : textKeys K N = true) : ∃ m, h.Ns N m := by
  unfold textKeys at e
  split at e
  · rename_i c dd es ep sl ho
    refine ⟨_, _, es, ep, X _ _ ho, rfl, fun x hx => ?_, fun _ => rfl⟩
    have q := List.all_eq_true.mp e x (by simpa using hx)
    cases hk : x.key with
    | str n t => exact ⟨n, t, rfl⟩
    | _ => rw [hk] at q; cases q
  · cases e
end L2
namespace L2
open PySem PySem.Spec PyProof.Rows
/-! ### own exceptions as things of the abstract heap -/
/-- one without a dict as yet; one whose dict lies at dx; that dict -/
def XN (a C : Addr) : HO := .ext fun h => ∃ o, h.get? a = some o ∧ o.cls = .ref C ∧ PySem.W.notCls o = true ∧ o.dict = none
def XD (a C dx : Addr) : HO := .ext fun h => ∃ o, h.get? a = some o ∧ o.cls = .ref C ∧ PySem.W.notCls o = true ∧ o.dict = some dx
def XM (a : Addr) (fs : List (Str × V)) : HO := .ext fun h => ∃ mA, h.Ns1 a mA ∧ (∀ f, RelO (fs.lookup f) (mA f)) ∧ PySem.Within mA (fs.map (·.1))
section
variable {P : Program} {w : World} {H : Hp} {h : Heap} {a C dx : Addr} {fs : List (Str × V)}
theorem xd_ok (e : ∃ o, h.get? a = some o ∧ o.cls = .ref C ∧ PySem.W.notCls o = true ∧ o.dict = some dx) : ObjOk P w H h a (XD a C dx) :=
  ⟨e, let ⟨o, q, _⟩ := e; ⟨o, q⟩, fun _ _ ⟨o, q, r⟩ k => ⟨o, k o q, r⟩⟩
theorem xm_ok (e : ∃ mA, h.Ns1 a mA ∧ (∀ f, RelO (fs.lookup f) (mA f)) ∧ PySem.Within mA (fs.map (·.1))) : ObjOk P w H h a (XM a fs) :=
  ⟨e, let ⟨_, ⟨o, _, _, q, _⟩, _⟩ := e; ⟨o, q⟩, fun _ _ ⟨mA, n, r⟩ k => ⟨mA, n.at k, r⟩⟩
end
/-- an own class right under an own one right under ValueError -/
abbrev veMro (C D : Addr) : List Value := [.ref C, .ref D, .type "ValueError", .type "Exception", .type "BaseException", .type "object"]
structure XOver (K : PySem.W.Frag) (C D : Addr) : Prop where
  at_ : ∃ cd, PySem.W.clsIn K C = some cd ∧ cd.hasDict = true ∧ cd.mro = veMro C D
  sa : PySem.W.findIn K (.ref C) "__setattr__" = some (some (.builtin "object.__setattr__"))
  ga : PySem.W.findIn K (.ref C) "__getattribute__" = some (some (.builtin "BaseException.__getattribute__"))
  gh : PySem.W.findIn K (.ref C) "__getattr__" = some none
section
variable {prog : Program} {w : World} {A : Around} {E : Value → Shared → Prop} {R : Result → Shared → Prop} {s : Shared} {K : PySem.W.Frag} {x C D : Addr} {ox : Obj} {od : Option Obj} {name : Str} {v : Value} {tk : Tok}
theorem XOver.sub {M : Model} {h : Heap} (W : XOver K C D) (X : K.In h) {T : Value} {b : Bool} (e : (veMro C D).contains T = b) : PySem.W.Looks M h (isSubtype (.ref C) T) b := by
  obtain ⟨cd, hc, _, hm⟩ := W.at_
  refine PySem.W.looks_mroIn X ?_
  unfold PySem.W.mroIn
  rw [hc, Option.bind_some, hm, if_neg (by simp), e]
theorem osa_x (X : K.In s.heap) (I : PySem.W.InstAt s.heap x ox C od) (W : XOver K C D) (hn : PySem.W.findIn K (.ref C) name = some none)
    (h : ∀ b, wpAny (model prog w) A.in1 (Builtin.ObjectAttr.storeInOwnDict (.ref x) (.ref C) (.str name tk) name v b)
      (fun fin s' => match fin with | .done f => R (.ok f) s' | .again c' => c'.quiet = true ∧ codeAny (model prog w) A c' R s') (fun e s' => R (.error e) s') s) :
    codeAny (model prog w) A (.call (.builtin "object.__setattr__") ⟨[.ref x, .str name tk, v], []⟩) R s := by
  have Z := PySem.F.store_object
  obtain ⟨cd, hc, _, hm⟩ := W.at_
  have own : PySem.W.Looks (model prog w) s.heap (isInstance (.ref x) (.type "object")) true := I.type.andThen (W.sub X (by simp))
  have mro : PySem.W.Looks (model prog w) s.heap (mroOf (.ref C)) (veMro C D) := by rw [← hm]; exact (PySem.W.looks_clsIn X hc).andThen .now
  refine codeAny_call_builtin Z.slot.plain Z.entry (@PySem.W.check_slot (model prog w) _ _ s "object.__setattr__" "object" "__setattr__" (.ref x) [.str name tk, v] [] _ Z.kind Z.split own (Z.args (.ref x) (.str name tk) v) ?_)
  rw [PySem.W.osa_eq, refuse_eq]
  refine wpAny_bind (wpAny_bind (I.type.here (wpAny_bind (mro.here ?_))))
  rw [refuseLoop_ref, refuseLoop_ref, PySem.F.store_ValueError.passes]
  exact wpAny_pure (wpAny_bind (I.type.here (wpAny_bind ((PySem.W.looks_findIn X hn).here (wpAny_bind (wpAny_pure (h _)))))))
end
end L2
namespace L2
open PySem PySem.Spec PyProof.Rows
section
variable {prog : Program} {w : World} {A : Around} {E : Value → Shared → Prop} {R : Result → Shared → Prop} {s : Shared} {K : PySem.W.Frag} {x C D : Addr} {ox : Obj} {od : Option Obj} {name : Str} {v : Value} {tk : Tok}
/-- the first field: the dict is made -/
theorem xset0 {Q : Unit → Shared → Prop} (X : K.In s.heap) (hx : s.heap.get? x = some ox) (hc : ox.cls = .ref C) (hno : PySem.W.notCls ox = true) (hd : ox.dict = none) (W : XOver K C D) (hn : PySem.W.findIn K (.ref C) name = some none)
    (h : ∀ h', h'.Ns1 s.heap.objs.size (fun y => if y = name then some v else none) → Heap.SameBut s.heap.objs.size ((s.heap.push PySem.W.emptyDict).update x fun o => { o with dict := some s.heap.objs.size }) h' → Q () { s with heap := h', toks := s.toks + 2 }) :
    wpAny (model prog w) A (setAttr (.ref x) name v) Q E s := by
  have I : PySem.W.InstAt s.heap x ox C none := ⟨hx, hc, hno, by rw [hd]; trivial⟩
  refine PySem.W.set_plain X I W.sa (osa_x (s := { s with toks := s.toks + 1 }) X I W hn fun b => ?_)
  obtain ⟨cd, hcd, hdi, _⟩ := W.at_
  obtain ⟨oc, odi, oda, osl⟩ := ox
  dsimp only at hc hd
  subst hc hd
  have hx1 := Heap.get?_push_of_some PySem.W.emptyDict hx
  have nd : ((s.heap.push PySem.W.emptyDict).update x fun o => { o with dict := some s.heap.objs.size }).Ns s.heap.objs.size (fun _ => none) := by
    have ne : x ≠ s.heap.objs.size := Nat.ne_of_lt (Heap.lt_size hx)
    exact ⟨PySem.W.emptyDict, #[], _, (Heap.get?_update_ne _ _ _ _ ne.symm).trans (Heap.get?_push_size _ rfl), rfl, fun e he => absurd he (by simp), fun _ => rfl⟩
  refine wpAny_bind (wpAny_pure (wpAny_bind (wpAny_bind (wpAny_loadPart hx (wpAny_bind (PySem.W.Looks.here (s := { s with toks := s.toks + 1 }) (PySem.W.looks_clsIn X hcd) ?_))))))
  rw [hdi]
  have hne : s.heap.objs.size ≠ x := Nat.ne_of_gt (Heap.lt_size hx)
  have go : wpAny (model prog w) A.in1 (do
      let d ← alloc { cls := .type "dict", data := .dict #[] }
      update x fun o => { cls := o.cls, dict := some d, data := o.data, slots := o.slots }
      dictMade (.ref C) x d) (fun a s' => a = some s.heap.objs.size ∧ s' = { s with heap := (s.heap.push PySem.W.emptyDict).update x fun o => { o with dict := some s.heap.objs.size }, toks := s.toks + 1 }) (fun _ _ => False) { s with toks := s.toks + 1 } := by
    refine wpAny_bind (wpAny_alloc ?_)
    refine wpAny_bind (wpAny_update (s := { s with heap := s.heap.push PySem.W.emptyDict, toks := s.toks + 1 }) hx1 ?_)
    exact wpAny_pure ⟨rfl, rfl⟩
  have fin : ∀ (a : Option Addr) (s' : Shared), a = some s.heap.objs.size ∧ s' = { s with heap := (s.heap.push PySem.W.emptyDict).update x fun o => { o with dict := some s.heap.objs.size }, toks := s.toks + 1 } →
      wpAny (model prog w) A.in1 (match a with | some d => Builtin.ObjectAttr.storeInDict d (.str name s.toks) name v | none => Builtin.ObjectAttr.noDictFor (.ref x) (.ref C) name b)
        (fun fin s' => match fin with
          | .done f => (match (Except.ok f : Result) with | .ok (.ret v) => Q () s' | .ok a => False | .error e => E e s')
          | .again c' => c'.quiet = true ∧ codeAny (model prog w) A c' (fun r s' => match r with | .ok (.ret v) => Q () s' | .ok a => False | .error e => E e s') s')
        (fun e s' => match (Except.error e : Result) with | .ok (.ret v) => Q () s' | .ok a => False | .error e => E e s') s' := by
    rintro a s' ⟨rfl, rfl⟩
    refine wpAny_bind (wpAny_pure (wpAny_bind ?_))
    refine wpAny_nsSet1 (Heap.Ns1.of_empty nd) fun h' n1 sb => ?_
    obtain ⟨oD, eD, pD, hoD, dD, cD⟩ := n1.count (PySem.Within.cons name v PySem.Within.nil)
    refine wpAny_bind (wpAny_lookBehind hoD (by rw [dD]; exact pastItsLine_dict (Nat.le_trans cD (by rw [List.length_cons, List.length_nil, sizeLine_eq]; omega))) ?_)
    exact wpAny_pure (h h' n1 sb)
  cases oda <;> first | exact wpAny_mono go fin (fun _ _ z => z.elim) | cases hno
end
end L2
namespace L2
open PySem PySem.Spec PyProof.Rows
section
variable {prog : Program} {w : World} {A : Around} {E : Value → Shared → Prop} {R : Result → Shared → Prop} {s : Shared} {K : PySem.W.Frag} {x C D : Addr} {ox : Obj} {od : Option Obj} {name : Str} {v : Value} {tk : Tok}
theorem ga_x (X : K.In s.heap) (I : PySem.W.InstAt s.heap x ox C od) (W : XOver K C D)
    (h : wpAny (model prog w) A.in1 (Builtin.«object.__getattribute__» ⟨[.ref x, .str name tk], []⟩) (fun fin s' => match fin with | .done f => R (.ok f) s' | .again c' => c'.quiet = true ∧ codeAny (model prog w) A c' R s') (fun e s' => R (.error e) s') s) :
    codeAny (model prog w) A (.call (.builtin "BaseException.__getattribute__") ⟨[.ref x, .str name tk], []⟩) R s := by
  have base : PySem.W.Looks (model prog w) s.heap (isInstance (.ref x) (.type "BaseException")) true := I.type.andThen (W.sub X (by simp))
  exact codeAny_call_builtin PySem.F.excAttr_ValueError.ga.plain PySem.F.entry_bexc_ga
    (@PySem.W.check_slot (model prog w) _ _ s "BaseException.__getattribute__" "BaseException" "__getattribute__" (.ref x) [.str name tk] [] _ (by decide +kernel) (by decide +kernel) base (PySem.F.args_bexc_ga _ _) h)
/-- the road of e.f, up to what the object's own __getattribute__ hands back -/
theorem xby {Q : Value → Shared → Prop} {fill expr : Bool} (X : K.In s.heap) (I : PySem.W.InstAt s.heap x ox C od) (W : XOver K C D) (hh : PySem.W.handedIn v = true)
    (h : ∀ P : Value → Shared → Prop, P v s → wpAny (model prog w) A.in1 (Builtin.«object.__getattribute__» ⟨[.ref x, .str name tk], []⟩) (fun fin s' => match fin with | .done (.ret u) => P u s' | _ => False) (fun _ _ => False) s)
    (q : Q v s) : wpAny (model prog w) A (getAttrBy (.ref x) (.str name tk) fill expr) Q E s := by
  obtain ⟨hp, g, d, t, os⟩ := s
  have L0 := I.type (M := model prog w)
  have L1 := PySem.W.looks_findIn (M := model prog w) X W.ga
  have L2 := PySem.W.looks_findIn (M := model prog w) X W.gh
  unfold getAttrBy
  refine wpAny_holding (wpAny_bind (L0.at (wpAny_bind (L1.at ?_))))
  show wpAny _ _ (getAttrByItsOwn _ _ _ _ _ _) _ _ _
  refine wpAny_bind (L2.at (wpAny_bind (wpAny_attempt (wpAny_holding ?_))))
  have e0 : callGetattribute (.ref x) (.str name tk) (.builtin "BaseException.__getattribute__") expr = boundAndCalled (.builtin "BaseException.__getattribute__") (.ref x) (.str name tk) := by cases expr <;> rfl
  rw [e0]
  unfold boundAndCalled
  rw [PySem.F.excAttr_ValueError.ga.bind]
  refine wpAny_bind (wpAny_pure (wpAny_call (ga_x X I W (wpAny_mono (h (fun u s' => wpAny (model prog w) A (handedOut u) Q E s') ?_) (fun fin s' z => ?_) fun _ _ z => z.elim))))
  · rw [PySem.W.handedOut_of hh]
    exact wpAny_pure q
  · rcases fin with (_ | _ | _ | _) | _ <;> first | exact z | exact z.elim
/-- e.f, a field -/
theorem xget {Q : Value → Shared → Prop} {expr : Bool} (X : K.In s.heap) (I : PySem.W.InstAt s.heap x ox C od) (W : XOver K C D) (hf : PySem.W.findObj K C od name = some (.value v)) (hh : PySem.W.handedIn v = true)
    (h : Q v { s with toks := s.toks + 1 }) : wpAny (model prog w) A (getAttr (.ref x) name expr) Q E s := by
  obtain ⟨hp, g, d, t, os⟩ := s
  unfold getAttr
  refine wpAny_bind (wpAny_mkText (xby (s := ⟨hp, g, d, t + 1, os⟩) X I W hh (fun P p => ?_) h))
  have L0 := I.type (M := model prog w)
  have L3 := PySem.W.looks_find (M := model prog w) X I hf
  refine wpAny_bind (wpAny_pure (wpAny_bind (wpAny_pure (wpAny_bind (L0.at (wpAny_bind (L3.at ?_)))))))
  exact wpAny_pure p
end
end L2
namespace L2
open PySem PySem.Spec PyProof.Rows
/-- what isinstance asks of the class -/
structure XIs (K : PySem.W.Frag) (C : Addr) : Prop where
  at_ : PySem.W.findIn K (.ref C) "__class__" = some (some (.builtin "object.__class__"))
  get : PySem.W.specialIn K (.builtin "object.__class__") "__get__" = some (some (.builtin "getset_descriptor.__get__"))
  tk : PySem.W.takesIn K (.builtin "object.__class__") = some true
section
variable {prog : Program} {w : World} {A : Around} {E : Value → Shared → Prop} {R : Result → Shared → Prop} {s : Shared} {K : PySem.W.Frag} {x C D : Addr} {ox : Obj} {od : Option Obj} {name : Str} {v : Value} {tk : Tok}
theorem find_cls (W : XOver K C D) (Z : XIs K C) : PySem.W.findObj K C od "__class__" = some (.bind (.builtin "getset_descriptor.__get__") (.builtin "object.__class__")) := by
  obtain ⟨cd, hc, _⟩ := W.at_
  unfold PySem.W.findObj
  rw [hc, Option.bind_some, Z.at_, Option.bind_some]
  simp [Z.get, Z.tk]
theorem XOver.obj (W : XOver K C D) : PySem.W.mroIn K C (.type "object") = some true := by
  obtain ⟨cd, hc, _, hm⟩ := W.at_
  unfold PySem.W.mroIn
  rw [hc, Option.bind_some, hm, if_neg (by simp)]
  simp
theorem xcls {Q : Option Value → Shared → Prop} (X : K.In s.heap) (I : PySem.W.InstAt s.heap x ox C od) (W : XOver K C D) (Z : XIs K C) (h : Q (some (.ref C)) { s with toks := s.toks + 1 }) : wpAny (model prog w) A (getAttr? (.ref x) "__class__") Q E s := by
  obtain ⟨hp, g, d, t, os⟩ := s
  unfold getAttr? getAttrBy?
  refine wpAny_bind (wpAny_mkText (wpAny_bind (wpAny_attempt (xby (s := ⟨hp, g, d, t + 1, os⟩) (v := .ref C) X I W rfl (fun P p => ?_) (wpAny_pure h)))))
  have L0 := I.type (M := model prog w)
  have L3 := PySem.W.looks_find (M := model prog w) X I (find_cls (od := od) W Z)
  refine wpAny_bind (wpAny_pure (wpAny_bind (wpAny_pure (wpAny_bind (L0.at (wpAny_bind (L3.at ?_)))))))
  show wpAny _ _ (holding [.builtin "object.__class__"] (call (.builtin "getset_descriptor.__get__") [.builtin "object.__class__", .ref x, .ref C]) >>= ret) _ _ _
  exact wpAny_bind (wpAny_holding (wpAny_call (PySem.W.class_get (s := ⟨hp, g, d, t + 1, os⟩) X I W.obj (wpAny_pure p))))
theorem XOver.isT {M : Model} {h : Heap} (W : XOver K C D) (X : K.In h) : PySem.W.Looks M h (isType (.ref C)) true := by
  obtain ⟨cd, hc, _⟩ := W.at_
  unfold PySem.W.clsIn at hc
  split at hc
  · rename_i ho
    intro A' Q' E' s' k q
    unfold isType loadHead
    exact wpAny_bind (wpAny_loadPart (k _ _ (X _ _ ho)) (wpAny_pure q))
  · cases hc
theorem kitx_x (W : XOver K C D) (Z : XIs K C) : PySem.W.KitX K (.ref x) (.ref C) (fun h => ∃ ox od, PySem.W.InstAt h x ox C od) where
  ty := fun _ _ _ ⟨_, _, I⟩ => I.type
  it := fun _ _ X _ => W.isT X
  ne := fun h tp dd its n sl X htp => by
    obtain ⟨cd, hc, _⟩ := W.at_
    refine Bool.eq_false_iff.mpr fun q => ?_
    cases Value.ref.inj (beq_iff_eq.mp q)
    unfold PySem.W.clsIn at hc
    split at hc
    · rename_i ho
      cases (X _ _ ho).symm.trans htp
    · cases hc
  ca := fun X ⟨_, _, I⟩ k => xcls X I W Z k
end
/-- an own exception at a, with or without fields -/
def XAt (H : Hp) (a C : Addr) : Prop := H a = some (XN a C) ∨ ∃ dx fs, H a = some (XD a C dx) ∧ H dx = some (XM dx fs)
section
variable {X : Cx} {pins : List (Addr × Obj)} {σ : St} {H : Hp} {s : Shared} {a C D dx : Addr} {fs : List (Str × V)} {f : Str} {v : V} {A : Around} {E : Value → Shared → Prop}
theorem x_none (I : Inv X pins σ H s) (e : H a = some (XN a C)) : ∃ o, s.heap.get? a = some o ∧ o.cls = .ref C ∧ PySem.W.notCls o = true ∧ o.dict = none :=
  (show ObjOk X.prog X.w H s.heap a (XN a C) from I.hok a _ e).1
theorem x_dict (I : Inv X pins σ H s) (e : H a = some (XD a C dx)) : ∃ o, s.heap.get? a = some o ∧ o.cls = .ref C ∧ PySem.W.notCls o = true ∧ o.dict = some dx :=
  (show ObjOk X.prog X.w H s.heap a (XD a C dx) from I.hok a _ e).1
theorem x_map (I : Inv X pins σ H s) (e : H dx = some (XM dx fs)) : ∃ mA, s.heap.Ns1 dx mA ∧ (∀ f, RelO (fs.lookup f) (mA f)) ∧ PySem.Within mA (fs.map (·.1)) :=
  (show ObjOk X.prog X.w H s.heap dx (XM dx fs) from I.hok dx _ e).1
theorem x_inst (I : Inv X pins σ H s) (e : XAt H a C) : ∃ ox od, PySem.W.InstAt s.heap a ox C od := by
  rcases e with e | ⟨dx, fs, e, e'⟩
  · obtain ⟨o, h1, h2, h3, h4⟩ := x_none I e
    exact ⟨o, none, h1, h2, h3, by rw [h4]; trivial⟩
  · obtain ⟨o, h1, h2, h3, h4⟩ := x_dict I e
    obtain ⟨mA, n, _⟩ := x_map I e'
    obtain ⟨od, ho, _⟩ := lookIn_ns n
    exact ⟨o, some od, h1, h2, h3, by rw [h4]; exact ho⟩
/-- isinstance(e, c) of an own exception -/
theorem call_isX : CallR X (.builtin "isinstance") (fun xs H Q => ∃ a c C D b, xs = [.ref a, c] ∧ (∃ C', c = .ref C' ∧ PySem.W.kitOne X.K (.ref C) (.ref C') = some b ∨ ∃ n, c = .ty n ∧ PySem.W.kitOne X.K (.ref C) (.type n) = some b) ∧ XAt H a C ∧ XOver X.K C D ∧ XIs X.K C ∧ Q (.bl b) H) := by
  intro pins s σ H xs us Q I r h
  obtain ⟨a, c, C, D, b, rfl, e, x, W, Z, q⟩ := h
  obtain ⟨u, w', rfl, ru, rw'⟩ := vals2 r
  cases ru
  have fin : ∀ tk, EP X pins σ Q (.bool b) { s with toks := tk } := fun tk => ⟨.bl b, H, I.tok tk, rfl, q⟩
  obtain ⟨C', e⟩ := e
  rcases e with ⟨rfl, e⟩ | ⟨n, rfl, e⟩
  · cases rw'
    exact PySem.W.kia_one (kitx_x W Z) I.kIn (x_inst I x) e (fun z => nomatch z) fin
  · cases rw'
    exact PySem.W.kia_one (kitx_x W Z) I.kIn (x_inst I x) e (fun z => nomatch z) fin
/-- e.f of an own exception -/
def tXFld (K : PySem.W.Frag) (ta : TE) (f : Str) : TE := fun σ H Q => ta σ H fun x H1 => ∃ a C D dx fs v, x = .ref a ∧ H1 a = some (XD a C dx) ∧ H1 dx = some (XM dx fs) ∧ XOver K C D ∧ NoAttr K C f ∧ fs.lookup f = some v ∧ Q v H1
theorem pe_xfld {e : Expr} {pos : Pos} {ta : TE} (he : PE X e ta) (hb : attributeBase e f X.env (eval e X.env) = eval e X.env) : PE X (.Attribute e f pos) (tXFld X.K ta f) := by
  intro pins s σ H Q I h
  refine attr_of hb (thn (he pins s σ H _ I h) fun u s1 ⟨x, H1, I1, rx, a, C, D, dx, fs, v, ex, ea, ed, W, n, l, q⟩ => ?_)
  subst ex
  obtain rfl : u = Value.ref a := rx
  obtain ⟨o, h1, h2, h3, h4⟩ := x_dict I1 ea
  obtain ⟨mA, nd, r, _⟩ := x_map I1 ed
  obtain ⟨od, ho, hl⟩ := lookIn_ns nd
  obtain ⟨u, hu, ru⟩ := RelO.some_of (v := v) (o := mA f) (by rw [← l]; exact r f)
  have J : PySem.W.InstAt s1.heap a o C (some od) := ⟨h1, h2, h3, by rw [h4]; exact ho⟩
  obtain ⟨cd, hc, hd, _⟩ := W.at_
  have hh : PySem.W.hasDictIn X.K C = true := by unfold PySem.W.hasDictIn; rw [hc]; exact hd
  exact xget I1.kIn J W (PySem.W.findObj_own hh n rfl (by rw [hl, hu])) (handed_of ru) ⟨v, H1, I1.tok _, ru, q⟩
end
end L2
namespace L2
open PySem PySem.Spec PyProof.Rows
theorem ns_at {K : PySem.W.Frag} {h : Heap} {a : Addr} {m : Str → Option Value} {n : Str} {r : Option Value} (X : K.In h) (G : h.Ns a m) (e : PySem.W.nsIn K a n = some r) : m n = r := by
  obtain ⟨o, es, ep, ho, hd, _, hf⟩ := G
  rw [← hf]
  unfold nsFind findBy
  rw [← Array.find?_toList]
  unfold PySem.W.nsIn at e
  split at e
  · rename_i q
    have z := (X _ _ q).symm.trans ho
    cases z
    cases hd
    split at e
    · rename_i he
      cases e
      rw [he]
      rfl
    · rename_i he
      split at e
      · cases e
      · cases e
        rw [he]
        rfl
  · cases e
section
variable {prog : Program} {w : World} {A : Around} {E : Value → Shared → Prop} {h : Heap} {g : Array GenState} {d : Drawn} {t : Nat} {os : OsState}
variable {nm q : Str} {C N fI : Addr} {bs bm bmB bmN : List Value} {hdct : Bool} {sn : List Str} {sub : List Value} {ab : Bool} {col : Option Bool} {dd : Option Addr} {k0 k1 k2 k3 k5 : Option Value} {B Bn newId nid inN initId : String}
end
abbrev veB : List Value := [.type "ValueError", .type "Exception", .type "BaseException", .type "object"]
/-- what of the text a class must have to be made -/
structure XMk (K : PySem.W.Frag) (C D : Addr) (i : Option Value) : Prop where
  kp : PySem.W.keepIn K (.ref C) = true
  cls : ∃ (nm q : Str) (N : Addr) (bs : List Value) (hdct : Bool) (sn : List Str) (sub : List Value) (ab : Bool) (col : Option Bool) (dd : Option Addr) (k0 k1 k2 k3 k5 : Option Value) (Bn newId inN : String) (bmN : List Value), ExcBaseFacts Bn newId inN bmN ∧ veB.contains (.type Bn) = true ∧
    K.lookup C = some (excClassObj nm q C N bs (.ref D :: veB) hdct sn sub ab col dd k0 k1 k2 k3 k5 newId) ∧ textKeys K N = true ∧ PySem.W.nsIn K N "__init__" = some i
  up : ∃ (c0 : Value) (dd : Option Addr) (cd : ClassData) (sl : Array (Option Value)), K.lookup D = some ⟨c0, dd, .cls cd, sl⟩ ∧ textKeys K cd.ns = true ∧ PySem.W.nsIn K cd.ns "__init__" = some none
theorem XMk.tail {K : PySem.W.Frag} {C D : Addr} {i : Option Value} {h : Heap} (M : XMk K C D i) (X : K.In h) : OwnTail h veB (.ref D :: veB) := by
  obtain ⟨c0, dd, cd, sl, l, tx, n⟩ := M.up
  obtain ⟨m, hm⟩ := ns_of_text X tx
  exact .own (X _ _ l) hm (ns_at X hm n) .base
section
variable {X : Cx} {CX : CXT} {k : Nat} {f C D : Addr} {fd : FuncData} {ps : List Str} {sp : Sp} {E : XK} {x : Str} {p pos : Pos} {e : Expr} {es : List Expr} {t : TA}
end
end L2
namespace L2
open PySem PySem.Spec PyProof.Rows
theorem XOver.subIn {K : PySem.W.Frag} {C D : Addr} (W : XOver K C D) (T : Value) : PySem.W.subIn K (.ref C) T = some ((veMro C D).contains T) := by
  obtain ⟨cd, hc, _, hm⟩ := W.at_
  show PySem.W.mroIn K C T = _
  unfold PySem.W.mroIn
  rw [hc, Option.bind_some, hm, if_neg (by simp)]
theorem kitm_ve : PySem.W.kitMeta "ValueError" = true := by decide +kernel
theorem over_of {K : PySem.W.Frag} {C D N : Addr} {nm q : Str} {bs : List Value} {sn : List Str} {sub : List Value} {ab : Bool} {col : Option Bool} {dd : Option Addr} {k0 k1 k2 k3 k5 : Option Value} {newId : String}
    (l : K.lookup C = some (excClassObj nm q C N bs (.ref D :: veB) true sn sub ab col dd k0 k1 k2 k3 k5 newId)) (sa : PySem.W.findIn K (.ref C) "__setattr__" = some (some (.builtin "object.__setattr__")))
    (ga : PySem.W.findIn K (.ref C) "__getattribute__" = some (some (.builtin "BaseException.__getattribute__"))) (gh : PySem.W.findIn K (.ref C) "__getattr__" = some none) : XOver K C D :=
  ⟨⟨_, by unfold PySem.W.clsIn; rw [l], rfl, rfl⟩, sa, ga, gh⟩
theorem mk_of {K : PySem.W.Frag} {C D N : Addr} {nm q : Str} {bs : List Value} {sn : List Str} {sub : List Value} {ab : Bool} {col : Option Bool} {dd : Option Addr} {k0 k1 k2 k3 k5 i : Option Value}
    {c0 : Value} {dd' : Option Addr} {cd : ClassData} {sl : Array (Option Value)}
    (l : K.lookup C = some (excClassObj nm q C N bs (.ref D :: veB) true sn sub ab col dd k0 k1 k2 k3 k5 "ValueError.__new__")) (kp : PySem.W.keepIn K (.ref C) = true) (tx : textKeys K N = true) (ni : PySem.W.nsIn K N "__init__" = some i)
    (lD : K.lookup D = some ⟨c0, dd', .cls cd, sl⟩) (tD : textKeys K cd.ns = true) (nD : PySem.W.nsIn K cd.ns "__init__" = some none) : XMk K C D i :=
  ⟨kp, ⟨nm, q, N, bs, true, sn, sub, ab, col, dd, k0, k1, k2, k3, k5, _, _, _, _, PySem.F.excBase_ValueError, by simp, l, tx, ni⟩, ⟨c0, dd', cd, sl, lD, tD, nD⟩⟩
theorem text_of {K : PySem.W.Frag} {N : Addr} {oc : Value} {od : Option Addr} {es : Array DictEntry} {n : Nat} {sl : Array (Option Value)} (l : K.lookup N = some ⟨oc, od, .dict es n, sl⟩) (h : (es.toList.all fun e => match e.key with | .str _ _ => true | _ => false) = true) : textKeys K N = true := by
  unfold textKeys
  rw [l]
  exact h
end L2
namespace L2
open PySem PySem.Spec PyProof.Rows PySem.W
/-- all but ch is as it was, of the frames the slots may be others -/
structure Kp (fs ch : List Addr) (h h' : Heap) : Prop where
  k : ∀ b o, h.get? b = some o → b ∉ fs → b ∉ ch → h'.get? b = some o
  f : ∀ b o, h.get? b = some o → b ∈ fs → b ∉ ch → ∃ sl, h'.get? b = some { o with slots := sl }
theorem Kp.any {fs ch : List Addr} {h h' : Heap} (a : Kp fs ch h h') {b : Addr} {o : Obj} (e : h.get? b = some o) (n : b ∉ ch) : ∃ sl, h'.get? b = some { o with slots := sl } := by
  by_cases c : b ∈ fs
  · exact a.f b o e c n
  · exact ⟨o.slots, a.k b o e c n⟩
theorem Kp.trans {fs ch : List Addr} {h h1 h2 : Heap} (a : Kp fs ch h h1) (b : Kp fs ch h1 h2) : Kp fs ch h h2 :=
  ⟨fun c o e n m => b.k c o (a.k c o e n m) n m, fun c o e n m => by
    obtain ⟨sl, e1⟩ := a.f c o e n m
    obtain ⟨sl2, e2⟩ := b.f c _ e1 n m
    exact ⟨sl2, e2⟩⟩
theorem Kp.mono {fs ch ch' : List Addr} {h h' : Heap} (a : Kp fs ch h h') (s : ∀ b ∈ ch, b ∈ ch') : Kp fs ch' h h' := ⟨fun b o e n m => a.k b o e n fun z => m (s b z), fun b o e n m => a.f b o e n fun z => m (s b z)⟩
theorem Kp.kept {fs : List Addr} {h h' : Heap} (k : ∀ b o, h.get? b = some o → h'.get? b = some o) : Kp fs [] h h' := ⟨fun b o e _ _ => k b o e, fun b o e _ _ => ⟨o.slots, k b o e⟩⟩
theorem ff_kp {base : Heap} : ∀ {l : List Env} {h h' : Heap}, h.FunFrames base l → (∀ b ∈ frs l, ∀ o, h.get? b = some o → ∃ sl, h'.get? b = some { o with slots := sl }) → h'.FunFrames base l
  | [], _, _, _, _ => by rw [Heap.FunFrames.eq_1]; trivial
  | env :: l, h, h', ff, k => by
    rw [Heap.FunFrames.eq_2] at ff ⊢
    obtain ⟨h1, ⟨L, o, h2, h3, h4, h5⟩, h6⟩ := ff
    obtain ⟨sl, e⟩ := k L (List.mem_filterMap.mpr ⟨env, List.mem_cons_self, h2⟩) o h4
    refine ⟨h1, ⟨L, _, h2, h3, e, h5⟩, ff_kp h6 fun b hb => k b ?_⟩
    obtain ⟨env', h7, h8⟩ := List.mem_filterMap.mp hb
    exact List.mem_filterMap.mpr ⟨env', List.mem_cons_of_mem _ h7, h8⟩
section
variable {M : Model} {A : Around} {E : Value → Shared → Prop} {s : Shared} {base : Heap} {env : Env} {outer : List Env} {L x T C : Addr} {Q : Unit → Shared → Prop}
end
theorem ObjOk.got {P : Program} {w : World} {H : Hp} {h : Heap} {a : Addr} {o : HO} (x : ObjOk P w H h a o) : ∃ ob, h.get? a = some ob := by
  cases o with
  | lst xs => obtain ⟨_, _, _, _, e⟩ := x; exact ⟨_, e⟩
  | tup xs => obtain ⟨_, _, _, o, e, _⟩ := x; exact ⟨_, e⟩
  | dK kvs => obtain ⟨_, _, _, _, o, _, _, e, _⟩ := x; exact ⟨_, e⟩
  | dT kvs => obtain ⟨_, _, _, _, o, _, _, e, _⟩ := x; exact ⟨_, e⟩
  | set S n => obtain ⟨o, _, _, _, e, _⟩ := x; exact ⟨_, e⟩
  | ins C dx fs => obtain ⟨_, _, _, e, _⟩ := x; exact ⟨_, e⟩
  | own y => obtain ⟨_, e⟩ := x; exact ⟨_, e⟩
  | xd fs => obtain ⟨_, ⟨_, _, _, e, _⟩, _⟩ := x; exact ⟨_, e⟩
  | rng lo hi => obtain ⟨_, _, _, e⟩ := x; exact ⟨_, e⟩
  | frz ob u => obtain ⟨e, _⟩ := x; exact ⟨_, e⟩
  | tbl ps => exact ⟨_, (show h.get? a = some _ from x)⟩
  | met f y => exact ⟨_, (show h.get? a = some _ from x)⟩
  | ext φ => obtain ⟨_, ⟨_, e⟩, _⟩ := x; exact ⟨_, e⟩
theorem HOk.none {P : Program} {w : World} {H : Hp} {h : Heap} {a : Addr} (x : HOk P w H h) (e : h.get? a = .none) : H a = .none := by
  cases q : H a with
  | none => rfl
  | some u =>
    obtain ⟨o, z⟩ := (x a u q).got
    rw [e] at z
    cases z
section
variable {X : Cx} {pins : List (Addr × Obj)} {σ : St} {H : Hp} {s : Shared}
theorem frs_stack (hs : X.stack = X.env :: X.outer) (hf : X.env.frame = some X.env.locals) {b : Addr} : b ∈ frs X.stack ↔ b = X.env.locals ∨ b ∈ frs X.outer := by
  rw [hs]
  unfold frs
  rw [List.filterMap_cons, hf]
  simp
/-- tracked things are no frames -/
theorem Inv.hokK (I : Inv X pins σ H s) {h' : Heap} {ch : List Addr} (k : Kp (frs X.stack) ch s.heap h') (n : ∀ b ∈ ch, H b = .none) : HOk X.prog X.w H h' := fun b u e => by
  have nf : ∀ c v, H c = some v → c ∉ frs X.stack ∧ c ∉ ch := fun c v e => ⟨fun z => (by rw [I.stkFree c z] at e; cases e), fun z => (by rw [n c z] at e; cases e)⟩
  refine (I.hok b u e).stay (fun c v hc q => ?_) (fun c q => q) fun c xs q => q
  rcases hc with z | z
  · rw [z] at q ⊢; exact k.k _ _ q (nf b u e).1 (nf b u e).2
  · exact k.k _ _ q (nf c _ z).1 (nf c _ z).2
end
end L2
namespace L2
open PySem PySem.Spec PyProof.Rows PySem.W
/-- an address that this body has nothing at -/
structure Away (X : Cx) (pins : List (Addr × Obj)) (x : Addr) : Prop where
  s0 : X.s₀.heap.get? x = .none
  loc : x ≠ X.env.locals
  cel : ∀ y c, X.env.cells.lookup y = some c → c ≠ x
  pin : ∀ p ∈ X.pn ++ pins, p.1 ≠ x
  fr : x ∉ frs X.stack
section
variable {X : Cx} {pins : List (Addr × Obj)} {σ : St} {H : Hp} {s : Shared} {x : Addr}
theorem Inv.away (I : Inv X pins σ H s) (hex : X.ex = []) (e : s.heap.get? x = .none) : Away X pins x where
  s0 := by
    cases q : X.s₀.heap.get? x with
    | none => rfl
    | some o =>
      obtain ⟨o', z⟩ := I.base.there x o q (by rw [hex]; simp)
      rw [e] at z; cases z
  loc := fun z => by
    obtain ⟨m, ⟨o, es, ep, ho, _⟩, _⟩ := I.loc
    rw [← z, e] at ho; cases ho
  cel := fun y c hc z => by
    obtain ⟨v, o, ho, _⟩ := I.cell y c hc
    rw [z, e] at ho; cases ho
  pin := fun p hp z => by
    have := (I.pin p hp).1
    rw [z, e] at this; cases this
  fr := fun z => by
    obtain ⟨_, o, ho, _⟩ := I.stack.mem z
    rw [e] at ho; cases ho
theorem Inv.nopins (I : Inv X pins σ H s) : Inv X [] σ H s := ⟨I.ok, I.os, I.bare, I.base, I.loc, I.cell, I.free, I.freeC, fun p hp => I.pin p (by simp at hp ⊢; exact .inl hp), I.hok, I.len⟩
theorem Inv.move (I : Inv X pins σ H s) (hs : X.stack = X.env :: X.outer) (hf : X.env.frame = some X.env.locals) (hex : X.ex = []) {h' : Heap} {H' : Hp} {ch : List Addr} (aw : ∀ b ∈ ch, Away X pins b) (k : Kp (frs X.stack) ch s.heap h') (hn : ∀ b, b ∉ ch → H' b = H b) (hc : ∀ b ∈ ch, H b = .none)
    (hok : HOk X.prog X.w H' h') : Inv X pins σ H' { s with heap := h' } := by
  have ns0 : ∀ b o, X.s₀.heap.get? b = some o → b ∉ ch := fun b o e z => by rw [(aw b z).s0] at e; cases e
  have neL : ∀ b o, X.s₀.heap.get? b = some o → b ≠ X.env.locals := fun b o e => Nat.ne_of_lt (Nat.lt_of_lt_of_le (Heap.lt_size e) I.ok.above)
  have nch : ∀ b u, H b = some u → b ∉ ch := fun b u e z => by rw [hc b z] at e; cases e
  have lnc : X.env.locals ∉ ch := fun z => (aw _ z).loc rfl
  have cell : ∀ y c v, X.env.cells.lookup y = some c → s.heap.IsCell c v → h'.IsCell c v := fun y c v hy ⟨o, ho, hd⟩ => by
    obtain ⟨sl, e⟩ := k.any ho (fun z => (aw c z).cel y c hy rfl)
    exact ⟨_, e, hd⟩
  refine ⟨I.ok, I.os, I.bare, ⟨fun b o e n nb nx => ?_, fun b o e n hb nx => ?_, fun b o e n nx => ?_, fun b o e nx => ?_, fun b xs e => ?_, fun b o u e => ?_, fun b ps e => ?_⟩, ?_, fun y c hy => ?_, ?_, fun y c hy => ?_, fun p hp => ?_, hok, I.len⟩
  · exact k.k b o (I.base.keep b o e n nb nx) (fun z => by
      rcases (frs_stack hs hf).mp z with z | z
      · exact neL b o e z
      · exact nb z) (ns0 b o e)
  · obtain ⟨sl, e1⟩ := I.base.slot b o e n hb nx
    obtain ⟨sl', e2⟩ := k.f b _ e1 ((frs_stack hs hf).mpr (.inr hb)) (ns0 b o e)
    exact ⟨sl', e2⟩
  · rw [hn b (ns0 b o e)]; exact I.base.free b o e n nx
  · obtain ⟨o', e1⟩ := I.base.there b o e nx
    obtain ⟨sl, e2⟩ := k.any e1 (ns0 b o e)
    exact ⟨_, e2⟩
  · have q := I.base.tups b xs e
    rw [hn b (nch b _ q)]; exact q
  · have q := I.base.frzs b o u e
    rw [hn b (nch b _ q)]; exact q
  · obtain ⟨more, q⟩ := I.base.tbls b ps e
    exact ⟨more, by rw [hn b (nch b _ q)]; exact q⟩
  · obtain ⟨m, ⟨o, es, ep, ho, r⟩, lk⟩ := I.loc
    obtain ⟨sl, e⟩ := k.any ho lnc
    refine ⟨m, ⟨_, es, ep, e, r⟩, fun i y v h1 h2 h3 => ?_⟩
    obtain ⟨u, ru, l⟩ := lk i y v h1 h2 h3
    refine ⟨u, ru, ?_⟩
    rcases l with l | ⟨l1, c, l2, l3⟩
    · exact .inl l
    · exact .inr ⟨l1, c, l2, cell y c _ l2 l3⟩
  · obtain ⟨v, hv⟩ := I.cell y c hy
    exact ⟨v, cell y c v hy hv⟩
  · rw [hn _ lnc]; exact I.free
  · rw [hn c fun z => (aw c z).cel y c hy rfl]; exact I.freeC y c hy
  · obtain ⟨p1, p2, p3, p4, p5⟩ := I.pin p hp
    have pc : p.1 ∉ ch := fun z => (aw _ z).pin p hp rfl
    refine ⟨k.k _ _ p1 (fun z => ?_) pc, by rw [hn _ pc]; exact p2, p3, p4, p5⟩
    rcases (frs_stack hs hf).mp z with z | z
    · exact p3 z
    · exact p4 z
/-- the name at i is gone -/
theorem Inv.unset {i : Nat} {n : Str} {h' : Heap} {u : Option Value} {m : Str → Option Value} (I : Inv X pins σ H s) (hN : X.N.Nodup) (hi : X.N[i]? = some n) (hl : X.env.kindOf n = some .local) (lk : ∀ (i : Nat) (x : Str) (v : V), X.N[i]? = some x → σ[i]? = some (some v) → Vis X.env.scope x → ∃ u, RelV v u ∧ Look X.env s.heap m x u)
    (ns : h'.Ns X.env.locals (fun x => if x = n then u else m x)) (sb : Heap.SameBut X.env.locals s.heap h') : Inv X pins (σ.set i .none) H { s with heap := h' } := by
  have kp : ∀ b o, b ≠ X.env.locals → s.heap.get? b = some o → h'.get? b = some o := fun b o hb e => (sb.2 b hb).trans e
  have neL : ∀ b o, X.s₀.heap.get? b = some o → b ≠ X.env.locals := fun b o e => Nat.ne_of_lt (Nat.lt_of_lt_of_le (Heap.lt_size e) I.ok.above)
  have cell : ∀ c v, s.heap.IsCell c v → h'.IsCell c v := fun c v ⟨o, ho, hd⟩ => ⟨o, kp c o (fun z => by
    obtain ⟨m', ⟨o', es, ep, ho', hd', _⟩, _⟩ := I.loc
    rw [z, ho'] at ho
    cases ho
    rw [hd'] at hd
    cases hd) ho, hd⟩
  refine ⟨I.ok, I.os, I.bare, ⟨fun b o e n nb nx => kp b o (neL b o e) (I.base.keep b o e n nb nx), fun b o e n hb nx => ?_, I.base.free, fun b o e nx => ?_, I.base.tups, I.base.frzs, I.base.tbls⟩, ⟨_, ns, fun j y v h1 h2 h3 => ?_⟩, fun y c hy => ?_, I.free, I.freeC, fun p hp => ?_, fun b v e => ?_, by rw [List.length_set]; exact I.len⟩
  · obtain ⟨sl, e1⟩ := I.base.slot b o e n hb nx
    exact ⟨sl, kp b _ (neL b o e) e1⟩
  · obtain ⟨o', e1⟩ := I.base.there b o e nx
    exact ⟨o', kp b o' (neL b o e) e1⟩
  · by_cases c : j = i
    · subst c
      rw [List.getElem?_set_self'] at h2
      cases hq : σ[j]? with
      | none => rw [hq] at h2; cases h2
      | some z => rw [hq] at h2; cases h2
    · rw [List.getElem?_set_ne (fun z => c z.symm)] at h2
      obtain ⟨w', rw', l⟩ := lk j y v h1 h2 h3
      refine ⟨w', rw', ?_⟩
      rcases l with ⟨l1, l2⟩ | ⟨l1, cc, l2, l3⟩
      · refine .inl ⟨l1, ?_⟩
        show (if y = n then u else m y) = some w'
        rw [if_neg (show ¬ y = n from fun z => c ?_)]
        · exact l2
        · rw [z] at h1
          have a1 := (List.getElem?_eq_some_iff.mp h1)
          have a2 := (List.getElem?_eq_some_iff.mp hi)
          exact (List.getElem_inj hN).mp (a1.2.trans a2.2.symm)
      · exact .inr ⟨l1, cc, l2, cell cc _ l3⟩
  · obtain ⟨v, hv⟩ := I.cell y c hy
    exact ⟨v, cell c v hv⟩
  · obtain ⟨p1, p2, p3, p4, p5⟩ := I.pin p hp
    exact ⟨kp _ _ p3 p1, p2, p3, p4, p5⟩
  · refine (I.hok b v e).stay (fun c o hc q => kp c o ?_ q) (fun c q => q) fun c xs q => q
    rcases hc with z | z
    · rw [z]; intro z2; rw [z2, I.free] at e; cases e
    · intro z2; rw [z2, I.free] at z; cases z
/-- within an except suite -/
abbrev Cx.hand (X : Cx) (x : Addr) : Cx := { X with A := X.A.mark (some (.ref x)), calm := false, xe := fun _ _ => False }
theorem Inv.hand (I : Inv X pins σ H s) (x : Addr) : Inv (X.hand x) pins σ H s :=
  ⟨⟨I.ok.mod, I.ok.kind, I.ok.glob, I.ok.blt, I.ok.above, I.ok.inj, I.ok.has, I.ok.cab, (fun z => nomatch z), I.ok.frames, I.ok.stk, I.ok.exf, I.ok.bs, I.ok.bsz, I.ok.noex, I.ok.exfs, I.ok.funs, I.ok.frf⟩, I.os, I.bare, I.base, I.loc, I.cell, I.free, I.freeC, I.pin, I.hok, I.len⟩
theorem Inv.unhand {x : Addr} (ok : X.Ok) (I : Inv (X.hand x) pins σ H s) : Inv X pins σ H s := ⟨ok, I.os, I.bare, I.base, I.loc, I.cell, I.free, I.freeC, I.pin, I.hok, I.len⟩
end
/-- the parent class D, as a class that catches -/
structure XUp (K : PySem.W.Frag) (D : Addr) : Prop where
  ty : typeIn K (.ref D) = some (.type "type")
  cl : (clsIn K D).isSome = true
  be : subIn K (.ref D) (.type "BaseException") = some true
theorem type_tuple {K : PySem.W.Frag} : subIn K (.type "type") (.type "tuple") = some false := by
  show Option.map _ (fastBuiltinMro "type") = _
  decide +kernel
theorem cls_isT {M : Model} {K : PySem.W.Frag} {h : Heap} {D : Addr} (c : (clsIn K D).isSome = true) (X : K.In h) : Looks M h (isType (.ref D)) true := by
  obtain ⟨cd, hc⟩ := Option.isSome_iff_exists.mp c
  unfold clsIn at hc
  split at hc
  · rename_i ho
    intro A' Q' E' s' k q
    unfold isType loadHead
    exact wpAny_bind (wpAny_loadPart (k _ _ (X _ _ ho)) (wpAny_pure q))
  · cases hc
end L2
namespace L2
open PySem PySem.Spec PyProof.Rows PySem.W
section
variable {X : Cx}
/-- a statement, a block, where nothing is pinned -/
def PS0 (X : Cx) (st : Stmt) (t : TS) : Prop := ∀ (s : Shared) (σ : St) (H : Hp) (D : Ends), Inv X [] σ H s → t D σ H → wpAny (model X.prog X.w) X.A (exec st X.env) (SP X [] D) X.xe s
def PSs0 (X : Cx) (st : List Stmt) (t : TS) : Prop := ∀ (s : Shared) (σ : St) (H : Hp) (D : Ends), Inv X [] σ H s → t D σ H → wpAny (model X.prog X.w) X.A (execs st X.env) (SP X [] D) X.xe s
theorem PS.p0 {st : Stmt} {t : TS} (h : PS X st t) : PS0 X st t := fun s σ H D I q => h [] s σ H D I q
theorem PSs.p0 {st : List Stmt} {t : TS} (h : PSs X st t) : PSs0 X st t := fun s σ H D I q => h [] s σ H D I q
theorem p0_cons {st : Stmt} {rest : List Stmt} {t u : TS} (h1 : PS0 X st t) (h2 : PSs0 X rest u) : PSs0 X (st :: rest) (tSeq t u) := by
  intro s σ H D I h
  refine wpAny_execs_cons (thn (h1 s σ H { D with nx := u D } I h) fun f s1 q => ?_)
  cases f with
  | next =>
    obtain ⟨σ', H', I', q⟩ := q
    exact h2 s1 σ' H' D I' q
  | ret v => exact q
  | brk => exact q
  | cont => exact q
theorem PSs0.nox {st : List Stmt} {t : TS} (h : PSs0 X.nox st t) : PSs0 X st t := fun s σ H D I q =>
  wpAny_mono (h s σ H D (I.wish _) q) (fun f s' z => SP.unwish z) fun _ _ z => z.elim
end
end L2
namespace L2
open PySem PySem.Spec PyProof.Rows PySem.W
theorem kitAny_no {K : PySem.W.Frag} {t : Value} : ∀ {its : List Value}, (∀ c ∈ its, kitOne K t c = some false) → kitAny K t its = some false
  | [], _ => rfl
  | c :: r, h => by
    have h1 := h c List.mem_cons_self
    have h2 := kitAny_no fun x hx => h x (List.mem_cons_of_mem _ hx)
    simp [kitAny, h1, h2]
theorem vals_refsE : ∀ {cs : List Addr} {us : List Value}, Vals (cs.map V.ref) us → us = cs.map Value.ref
  | [], _, .nil => rfl
  | c :: cs, _, .cons r t => by
    have r : _ = Value.ref c := r
    rw [vals_refsE t, r]
    rfl
/-- isinstance(e, (C1, C2, ..)), e of none of them -/
theorem call_isN {X : Cx} : CallR X (.builtin "isinstance") (fun xs H Q => ∃ (a p C D : Addr) (cs : List Addr), xs = [.ref a, .ref p] ∧ SqT X.K H p (cs.map V.ref) ∧ XAt H a C ∧ XOver X.K C D ∧ XIs X.K C ∧ (∀ c ∈ cs, kitOne X.K (.ref C) (.ref c) = some false) ∧ Q (.bl false) H) := by
  intro pins s σ H xs us Q I r h
  obtain ⟨a, p, C, D, cs, rfl, hq, x, W, Z, no, q⟩ := h
  obtain ⟨u, w', rfl, ru, rw'⟩ := vals2 r
  cases ru
  cases rw'
  obtain ⟨its, rv, ⟨⟨cls, dd, data, sl⟩, ho, hc, n, hd⟩, _⟩ := I.tuple hq
  simp only at hc hd
  subst hc hd
  have e := vals_refsE rv
  subst e
  refine kia_tup (kitx_x W Z) I.kIn (x_inst I x) ho (kitAny_no fun c hc => ?_) (fun z => nomatch z) fun tk => ⟨.bl false, H, I.tok tk, rfl, q⟩
  obtain ⟨c', hc', rfl⟩ := List.mem_map.mp hc
  exact no c' hc'
/-! ### defs that are called within an except suite -/
section
variable {P : Program} {w : World} {K : PySem.W.Frag} {mg : Str → Option Value} {base : Heap}
/-- a def with a try: nothing is pinned at its entry -/
theorem Fun.ok0 {x qual : Str} {st : Stmt} {f : Addr} {fd : FuncData} {N ps : List Str} {k : Nat} {sp : Sp} (F : Fun K x qual st f fd) (S : FnScope N ps (defScope st)) (len : ∀ vs H Q E, sp vs H Q E → vs.length = ps.length)
    (hbody : ∀ (cdv : Value) (A : Around) (outer : List Env) (s : Shared) (H : Hp) (vs : List V) (Q : VK) (E : XK), Room k (A.deeper (envOfC qual (defScope st) s.heap.objs.size f cdv)) → sp vs H Q E →
      ∃ t, PSs0 (cxOf CX0 P w K mg base N qual (defScope st) f cdv A outer s H E).nox (defBody st) t ∧ t { nx := fun _ H' => Q .non H', rt := Q } (start N vs) H) : FnOk P w K mg base CX0 (k + 1) f fd ps sp := by
  obtain ⟨oc, od, kV, doc, pm, an, cdv, ct, osl, rfl, lk, hcd⟩ := F.ex
  refine ⟨len, fun A outer s H args us vs Q E hr e0 hb r hsp => ?_⟩
  have hl := len _ _ _ _ hsp
  have KX : K.In s.heap := e0.mod.kin.keeps fun b o e => (e0.bs b o e).1
  have lim : s.heap.NoLimit := e0.mod.nolimit.keeps fun b o e => (e0.bs b o e).1
  have hkind : ∀ y ∈ ps.zip us, (defScope st).names.lookup y.1 = some .local ∨ ((defScope st).names.lookup y.1 = some .cell ∧ ((cellsFrom (s.heap.objs.size + 1) (defScope st).names []).lookup y.1).isSome = true) := fun ⟨n, v⟩ hy => by
    rcases S.par n (List.of_mem_zip hy).1 with q | q
    · exact .inl q
    · exact .inr ⟨q, PySem.W.cellsFrom_some _ _ _ (.inl q)⟩
  refine codeAny_call_function hr.depth (KX _ _ lk) rfl S.co S.gen rfl (PySem.W.codeRec_of KX hcd) (hb _ _ _ _ ?_)
  refine wpAny_newFunctionEnv_cells S.kind hkind fun env he s1 x => ?_
  subst he
  refine ⟨lim.keeps x.toInCall.keep, codeAny_func ?_⟩
  obtain ⟨t, ht, hq⟩ := hbody cdv A outer s H vs Q E (hr.deeper _) hsp
  have I : Inv (cxOf CX0 P w K mg base N qual (defScope st) f cdv A outer s H E) [] (start N vs) H s1 := inv_start S hr.hd e0 hl r x
  refine wpAny_mono (ht.nox s1 (start N vs) H _ I hq) (fun fl s' hs => ?_) fun e s' hs => hs
  have fin : ∀ {σ' : St} {H' : Hp} {v : V} {u : Value}, Inv (cxOf CX0 P w K mg base N qual (defScope st) f cdv A outer s H E) [] σ' H' s' → RelV v u → Q v H' → CE outer P w H s Q u s' :=
    fun {σ' H' v u} J rv q => ⟨v, H', J.os, J.bare, J.base, J.hok, rv, q⟩
  cases fl with
  | ret u =>
    obtain ⟨v, σ', H', J, rv, q⟩ := hs
    exact fin J rv q
  | next =>
    obtain ⟨σ', H', J, q⟩ := hs
    exact fin (v := V.non) (u := Value.none) J rfl q
  | brk =>
    obtain ⟨_, _, _, q⟩ := hs
    exact False.elim q
  | cont =>
    obtain ⟨_, _, _, q⟩ := hs
    exact False.elim q
end
section
variable {X : Cx} {k : Nat} {f : Addr} {fd : FuncData} {ps : List Str} {sp : Sp} {x : Str} {p pos : Pos} {e : Expr} {es : List Expr} {t : TA}
end
end L2
namespace L2
open PySem PySem.Spec PyProof.Rows
/-! ### an own exception as it is made, with its fields: no traceback yet -/
def XN1 (a C : Addr) : HO := .ext fun h => ∃ o, h.get? a = some o ∧ o.cls = .ref C ∧ o.dict = none ∧ ∃ t, o.data = .fields #[.ref t, .none, .none, .none, .bool false, .none]
def XD1 (a C dx : Addr) : HO := .ext fun h => ∃ o, h.get? a = some o ∧ o.cls = .ref C ∧ o.dict = some dx ∧ ∃ t, o.data = .fields #[.ref t, .none, .none, .none, .bool false, .none]
section
variable {P : Program} {w : World} {H : Hp} {h : Heap} {a C dx : Addr}
theorem xn1_ok (e : ∃ o, h.get? a = some o ∧ o.cls = .ref C ∧ o.dict = none ∧ ∃ t, o.data = .fields #[.ref t, .none, .none, .none, .bool false, .none]) : ObjOk P w H h a (XN1 a C) :=
  ⟨e, let ⟨o, h, _⟩ := e; ⟨o, h⟩, fun h1 h2 ⟨o, h, r⟩ k => ⟨o, k _ h, r⟩⟩
theorem xd1_ok (e : ∃ o, h.get? a = some o ∧ o.cls = .ref C ∧ o.dict = some dx ∧ ∃ t, o.data = .fields #[.ref t, .none, .none, .none, .bool false, .none]) : ObjOk P w H h a (XD1 a C dx) :=
  ⟨e, let ⟨o, h, _⟩ := e; ⟨o, h⟩, fun h1 h2 ⟨o, h, r⟩ k => ⟨o, k _ h, r⟩⟩
end
section
variable {X : Cx} {pins : List (Addr × Obj)} {σ : St} {H : Hp} {s : Shared} {a C dx : Addr} {f : Str}
theorem x_none1 (I : Inv X pins σ H s) (e : H a = some (XN1 a C)) : ∃ o, s.heap.get? a = some o ∧ o.cls = .ref C ∧ o.dict = none ∧ ∃ t, o.data = .fields #[.ref t, .none, .none, .none, .bool false, .none] :=
  (show ObjOk X.prog X.w H s.heap a (XN1 a C) from I.hok a _ e).1
theorem x_dict1 (I : Inv X pins σ H s) (e : H a = some (XD1 a C dx)) : ∃ o, s.heap.get? a = some o ∧ o.cls = .ref C ∧ o.dict = some dx ∧ ∃ t, o.data = .fields #[.ref t, .none, .none, .none, .bool false, .none] :=
  (show ObjOk X.prog X.w H s.heap a (XD1 a C dx) from I.hok a _ e).1
def sXFld1 (K : PySem.W.Frag) (ta tv : TE) (f : Str) : TS := fun D σ H => tv σ H fun y H1 => ta σ H1 fun x H2 => ∃ a C B, x = .ref a ∧ XOver K C B ∧ NoAttr K C f ∧
  (H2 a = some (XN1 a C) ∧ ∀ dx, H2 dx = none → D.nx σ (upd (upd (upd H2 dx (XM dx [])) a (XD1 a C dx)) dx (XM dx [(f, y)])))
theorem ps_xfld1 {o value : Expr} {pos pos' : Pos} {ta tv : TE} (ha : PE X o ta) (hv : PE X value tv) (hs : swapsWith value (some (.Attribute o f pos')) pos.line X.env = pure false) : PS X (.Assign [.Attribute o f pos'] value pos) (sXFld1 X.K ta tv f) := by
  intro pins s σ H Dn I h
  refine plainObj_wpAny_Assign_Attribute (thn (hv pins s σ H _ I h) fun u s1 ⟨y, H1, I1, ry, q⟩ => thn (ha pins s1 σ H1 _ I1 q) fun ov s2 ⟨x, H2, I2, rx, a, C, B, ex, W, n, q2⟩ => ?_) hs
  subst ex
  obtain rfl : ov = Value.ref a := rx
  obtain ⟨ea, q2⟩ := q2
  obtain ⟨o', h1, h2, h4, tt, h5⟩ := x_none1 I2 ea
  have h3 : PySem.W.notCls o' = true := by unfold PySem.W.notCls; rw [h5]
  have hf : H2 s2.heap.objs.size = none := I2.hok.fresh (Nat.le_refl _)
  have nea : a ≠ s2.heap.objs.size := ne_of_none ea hf
  refine xset0 I2.kIn h1 h2 h3 h4 W n fun h' n1 sb => ?_
  have e0 : (s2.heap.push PySem.W.emptyDict).get? s2.heap.objs.size = some PySem.W.emptyDict := Heap.get?_push_size s2.heap rfl
  have n0 : (s2.heap.push PySem.W.emptyDict).Ns s2.heap.objs.size (fun _ => none) := ⟨PySem.W.emptyDict, #[], _, e0, rfl, (fun e he => absurd he (by simp)), fun _ => rfl⟩
  have J1 := I2.laid (a := s2.heap.objs.size) (o := XM s2.heap.objs.size []) (h' := s2.heap.push PySem.W.emptyDict) (t' := s2.toks) (fun b u q => Heap.get?_push_of_some _ q) (Nat.le_refl _) (xm_ok ⟨fun _ => none, Heap.Ns1.of_empty n0, fun _ => True.intro, fun y hy => absurd rfl hy⟩)
  have h1' := Heap.get?_push_of_some PySem.W.emptyDict h1
  have h1u : ((s2.heap.push PySem.W.emptyDict).update a fun o => { o with dict := some s2.heap.objs.size }).get? a = some { o' with dict := some s2.heap.objs.size } := by
    refine Heap.get?_update_self _ h1' ?_
    have hfr := (Heap.get?_some_iff.mp h1).2
    obtain ⟨oc, od, odt, osl⟩ := o'
    cases odt <;> first | rfl | exact hfr
  have J2 := J1.write (x := a) (e := a) (o := XD1 a C s2.heap.objs.size) (h' := (s2.heap.push PySem.W.emptyDict).update a fun o => { o with dict := some s2.heap.objs.size }) (t' := s2.toks) (by rw [upd_ne nea, ea]; exact True.intro) (.inl rfl)
    (fun b u hb q => (Heap.get?_update_ne _ _ _ _ hb).trans q) ⟨_, h1u⟩ (xd1_ok ⟨_, h1u, h2, rfl, tt, h5⟩)
  obtain ⟨oD, eD, pD, hoD, rD⟩ := id n1
  have J3 := J2.write (x := s2.heap.objs.size) (e := s2.heap.objs.size) (o := XM s2.heap.objs.size [(f, y)]) (h' := h') (t' := s2.toks + 2) (by rw [upd_ne nea.symm, upd_same]; exact True.intro) (.inl rfl) (fun b u hb q => (sb.2 b hb).trans q) ⟨_, hoD⟩
    (xm_ok ⟨_, n1, fun g => ?_, fun g hg => ?_⟩)
  · exact ⟨σ, _, J3, q2 _ hf⟩
  · show RelO (List.lookup g [(f, y)]) (if g = f then some u else none)
    by_cases z : g = f
    · subst z; simp [List.lookup]; exact ry
    · have hb : (g == f) = false := beq_eq_false_iff_ne.mpr z
      simp only [List.lookup, hb, if_neg z]
      exact True.intro
  · by_cases z : g = f
    · simp [z]
    · exact absurd (if_neg z) hg
end
def tXMake1 (C : Addr) (sp : Sp) (E : XK) (t : TA) : TE := fun σ H Q => t σ H fun vs H1 => vs.length ≤ sizeLine ∧ ∀ x, H1 x = none → sp (.ref x :: vs) (upd H1 x (XN1 x C)) (fun v H2 => v = .non ∧ Q (.ref x) H2) E
section
variable {X : Cx} {CX : CXT} {k : Nat} {f C D : Addr} {fd : FuncData} {ps : List Str} {sp : Sp} {E : XK} {x : Str} {p pos : Pos} {e : Expr} {es : List Expr} {t : TA}
theorem run_x1 {of : Obj} {pins : List (Addr × Obj)} {σ : St} {H : Hp} {s : Shared} {Q : VK} {us : List Value} {vs : List V} (M : XMk X.K C D (some (.ref f))) (lf : X.K.lookup f = some of) (hof : of.cls = .type "function") (F : FnOk X.prog X.w X.K X.mg X.base CX k f fd ps sp) (hr : Room (k + 1) X.A) (hb : Binds X.K fd ps [])
    (hx : Passes CX X E) (I : Inv X pins σ H s) (r : Vals vs us) (h : vs.length ≤ sizeLine ∧ ∀ x, H x = none → sp (.ref x :: vs) (upd H x (XN1 x C)) (fun v H2 => v = .non ∧ Q (.ref x) H2) E) :
    wpAny (model X.prog X.w) X.A (call (.ref C) us) (EP X pins σ Q) X.xe s := by
  obtain ⟨nm, q, N, bs, hdct, sn, sub, ab, col, dd, k0, k1, k2, k3, k5, Bn, newId, inN, bmN, Fn, hBn, l, tx, ni⟩ := M.cls
  obtain ⟨m, hm⟩ := ns_of_text I.kIn tx
  have T := M.tail I.kIn
  obtain ⟨hz, h⟩ := h
  have hq := h (s.heap.objs.size + 1) (I.hok.fresh (Nat.le_succ _))
  have I2 := I.laid (a := s.heap.objs.size + 1) (o := XN1 (s.heap.objs.size + 1) C) (h' := xHeap s.heap C us) (t' := s.toks) (fun b u q => xHeap_old q) (Nat.le_succ _) (xn1_ok ⟨_, xHeap_new, rfl, rfl, _, rfl⟩)
  have r2 : Vals (V.ref (s.heap.objs.size + 1) :: vs) (Value.ref (s.heap.objs.size + 1) :: us) := .cons rfl r
  have hl : (Value.ref (s.heap.objs.size + 1) :: us ++ []).length = ps.length := by
    have e := r2.length
    rw [F.len _ _ _ _ hq] at e
    rw [List.append_nil]
    exact e.symm
  have bd := hb { s with heap := xHeap s.heap C us } (Value.ref (s.heap.objs.size + 1) :: us) I2.kIn hl
  rw [List.append_nil] at bd
  have run := F.run _ X.stack _ _ ⟨Value.ref (s.heap.objs.size + 1) :: us, []⟩ (Value.ref (s.heap.objs.size + 1) :: us) _ _ E (hr.make C us []) (I2.env0.make C us []) bd r2 hq
  refine call_x (h := s.heap) Fn hBn PySem.F.excBase_ValueError T (I.kIn _ _ l) hm (ns_at I.kIn hm ni) (I.kIn _ _ lf) hof (by rw [← r.length]; exact hz) (wpAny_call (codeAny_mono run fun r s' hq' => ?_))
  cases r with
  | error e => exact hx pins σ _ _ e s' I2 hq'
  | ok fl =>
    cases fl with
    | ret u =>
      obtain ⟨v, H', I3, rv, ev, q3⟩ := I2.after hq'
      subst ev
      exact ⟨rv, ⟨V.ref (s.heap.objs.size + 1), H', I3, rfl, q3⟩⟩
    | next => exact False.elim hq'
    | brk => exact False.elim hq'
    | cont => exact False.elim hq'
theorem pe_xmake1 {of : Obj} (M : XMk X.K C D (some (.ref f))) (lf : X.K.lookup f = some of) (hof : of.cls = .type "function") (F : FnOk X.prog X.w X.K X.mg X.base CX k f fd ps sp) (hr : Room (k + 1) X.A) (hg : Gl X x) (hm : X.mg x = some (.ref C)) (hb : Binds X.K fd ps []) (hx : Passes CX X E)
    (ha : PA X (e :: es) t) (hdb : (x == ("__debug__" : Str)) = false := by decide) (he : starEach (e :: es) X.env = (false, eval e X.env) :: starEach es X.env := by rfl) (hpl : (backTo pos (starEach es X.env)).any (·.1) = false := by rfl) :
    PE X (.Call (.Name x p) (e :: es) [] pos) (tXMake1 C sp E t) := by
  intro pins s σ H Q I h
  refine wpAny_Call_Name_kw (ld_glob I hg hm ?_ hdb)
  refine PySem.W.callWith_K (h₀ := X.base) I.ok.mod.kin M.kp (thn (ha pos pins s σ H _ I h) fun us s1 ⟨vs, H1, I1, r, q⟩ => ⟨I1.kIn, ?_⟩) he hpl
  exact run_x1 M lf hof F hr hb hx I1 r q
end
end L2
namespace L2
open PySem PySem.Spec PyProof.Rows PySem.W
/-! ### an own exception with fields that flies -/
def ExcAt2 (h : Heap) (x C dx : Addr) (tb : Value) : Prop := ∃ o vs, h.get? x = some o ∧ o.cls = .ref C ∧ o.dict = some dx ∧ o.data = .fields vs ∧ vs[1]? = some tb
def Flies2 (h : Heap) (x T C dx : Addr) (fl : Value) : Prop := ExcAt2 h x C dx (.ref T) ∧ T ≠ x ∧ ∃ o ts, h.get? T = some o ∧ o.data = .fields ts ∧ ts[3]? = some fl
section
variable {M : Model} {A : Around} {E : Value → Shared → Prop} {s : Shared} {base : Heap} {env : Env} {outer : List Env} {L x T C dx : Addr} {Q : Unit → Shared → Prop}
theorem flight_none2 {fs : List Addr} {fl : Value} (hT : T ∉ fs) (F : Flies2 s.heap x T C dx fl) (q : ∀ h', Kp fs [T] s.heap h' → Flies2 h' x T C dx .none → Q () { s with heap := h' }) : wpAny M A (setFlight (.ref x) .none) Q E s := by
  obtain ⟨⟨o, vs, e1, e2, e3, e4, e5⟩, ne, oT, ts, f1, f2, f3⟩ := F
  have sz : 3 < ts.size := (Array.getElem?_eq_some_iff.mp f3).1
  refine wpAny_setFlight_none e1 e4 e5 f1 f2 sz (q _ ⟨fun b u e _ n => ?_, fun b u e hb n => ⟨u.slots, ?_⟩⟩ ⟨⟨o, vs, ?_, e2, e3, e4, e5⟩, ne, _, _, Heap.get?_update_self _ f1 (Obj.isFreed_of_fields (Obj.data_mapFields f2 _)), Obj.data_mapFields f2 _, ?_⟩)
  · rw [Heap.get?_update_ne _ _ _ _ (by simpa using n)]; exact e
  · rw [Heap.get?_update_ne _ _ _ _ (by simpa using n)]; exact e
  · rw [Heap.get?_update_ne _ _ _ _ ne.symm]; exact e1
  · simp [sz]
/-- a new entry of the traceback -/
theorem entryX2 {head : Value} {hadNext : Bool} {tb : Value} (hA : A.frames = some (env :: outer)) (ff : s.heap.FunFrames base (env :: outer)) (hf : env.frame = some L) (ex : ExcAt2 s.heap x C dx tb)
    (q : ∀ h' T, Kp (frs (env :: outer)) [x] s.heap h' → s.heap.get? T = .none → T ∉ frs (env :: outer) → Flies2 h' x T C dx (rawInt L) → Q () { s with heap := h' }) :
    wpAny M A (do
      let a ← PySem.frameOf env
      let pl ← entryPlaceOf L hadNext
      let b ← EntryCells.newEntry head a Value.none (rawInt L) Value.none pl
      setField (Value.ref x) 1 b) Q E s := by
  obtain ⟨o, vs, e1, e2, e3, e4, e5⟩ := ex
  have nx : x ∉ frs (env :: outer) := fun z => by
    obtain ⟨_, u, hu, hd⟩ := ff.mem z
    rw [e1] at hu
    cases hu
    exact hd _ e4
  have sz : 1 < vs.size := (Array.getElem?_eq_some_iff.mp e5).1
  refine wpAny_bind (wpAny_frameOf_fun hA ff hf fun h1 so => ?_)
  obtain ⟨z1, k1, sl1⟩ := so
  refine wpAny_bind (wpAny_entryPlaceOf fun pl hpl => ?_)
  refine wpAny_bind (wpAny_newObj_type ?_ (hpl.sizeOk5 _ _ _ _ _))
  have ex1 : (h1.push { cls := .type "traceback", dict := .none, data := .fields ([head, Value.ref L, Value.none, rawInt L, Value.none] ++ if pl.isEmpty = true then List.replicate 6 Value.none else pl).toArray }).get? x = some o := Heap.get?_push_of_some _ ((k1 x nx).trans e1)
  refine wpAny_setField ex1 e4 sz ?_
  have lt1 : x < h1.objs.size := Heap.lt_size ((k1 x nx).trans e1)
  have neT : h1.objs.size ≠ x := Nat.ne_of_gt lt1
  have fT : s.heap.get? h1.objs.size = .none := by rw [z1]; exact Heap.get?_none_of_le (Nat.le_refl _)
  refine q _ h1.objs.size ⟨fun b u e hn n => ?_, fun b u e hb n => ?_⟩ fT (fun z => ?_) ⟨⟨_, _, Heap.get?_update_self _ ex1 (Obj.isFreed_of_fields (Obj.data_mapFields e4 _)), (Obj.cls_mapFields ..).trans e2, ?_, Obj.data_mapFields e4 _, by simp [sz]⟩, neT, { cls := .type "traceback", dict := .none, data := .fields ([head, Value.ref L, Value.none, rawInt L, Value.none] ++ if pl.isEmpty = true then List.replicate 6 Value.none else pl).toArray }, _, ?_, rfl, ?_⟩
  · rw [Heap.get?_update_ne _ _ _ _ (by simpa using n)]
    exact Heap.get?_push_of_some _ ((k1 b hn).trans e)
  · obtain ⟨sl, e'⟩ := sl1 b u e
    refine ⟨sl, ?_⟩
    rw [Heap.get?_update_ne _ _ _ _ (by simpa using n)]
    exact Heap.get?_push_of_some _ e'
  · obtain ⟨_, u, hu, _⟩ := ff.mem z
    rw [fT] at hu
    cases hu
  · obtain ⟨c, d, da, sl⟩ := o
    dsimp only at e3 e4
    subst e3 e4
    rfl
  · rw [Heap.get?_update_ne _ _ _ _ neT]
    exact Heap.get?_push_size _ rfl
  · simp
theorem note_new2 (hA : A.frames = some (env :: outer)) (ff : s.heap.FunFrames base (env :: outer)) (hf : env.frame = some L) (ex : ExcAt2 s.heap x C dx .none)
    (q : ∀ h' T, Kp (frs (env :: outer)) [x] s.heap h' → s.heap.get? T = .none → T ∉ frs (env :: outer) → Flies2 h' x T C dx (rawInt L) → Q () { s with heap := h' }) : wpAny M A (noteFrame (.ref x) env) Q E s := by
  obtain ⟨o, vs, e1, e2, e3, e4, e5⟩ := id ex
  unfold noteFrame
  rw [hf]
  refine wpAny_bind (wpAny_field e1 e4 e5 ?_)
  rw [if_neg (by simp)]
  exact entryX2 hA ff hf ex q
theorem note_on2 (hA : A.frames = some (env :: outer)) (ff : s.heap.FunFrames base (env :: outer)) (hf : env.frame = some L) (hT : T ∉ frs (env :: outer)) (F : Flies2 s.heap x T C dx .none)
    (q : ∀ h' T', Kp (frs (env :: outer)) [x, T] s.heap h' → s.heap.get? T' = .none → T' ∉ frs (env :: outer) → Flies2 h' x T' C dx (rawInt L) → Q () { s with heap := h' }) : wpAny M A (noteFrame (.ref x) env) Q E s := by
  obtain ⟨⟨o, vs, e1, e2, e3, e4, e5⟩, ne, oT, ts, f1, f2, f3⟩ := id F
  have sz : 3 < ts.size := (Array.getElem?_eq_some_iff.mp f3).1
  unfold noteFrame
  rw [hf]
  refine wpAny_bind (wpAny_field e1 e4 e5 ?_)
  rw [if_pos (by simp)]
  refine wpAny_bind (wpAny_field f1 f2 f3 ?_)
  rw [if_neg (by simp [rawInt])]
  refine wpAny_bind (wpAny_setField f1 f2 sz ?_)
  have k1 : Kp (frs (env :: outer)) [T] s.heap (s.heap.update T (Obj.mapFields fun y => y.setIfInBounds 3 Value.none)) := ⟨fun b u e _ n => by rw [Heap.get?_update_ne _ _ _ _ (by simpa using n)]; exact e, fun b u e hb n => ⟨u.slots, by rw [Heap.get?_update_ne _ _ _ _ (by simpa using n)]; exact e⟩⟩
  have x1 : (s.heap.update T (Obj.mapFields fun y => y.setIfInBounds 3 Value.none)).get? x = some o := by rw [Heap.get?_update_ne _ _ _ _ ne.symm]; exact e1
  have n1 : ∀ b, s.heap.get? b ≠ .none → (s.heap.update T (Obj.mapFields fun y => y.setIfInBounds 3 Value.none)).get? b ≠ .none := fun b hb => by
    by_cases c : b = T
    · subst c
      rw [Heap.get?_update_self _ f1 (Obj.isFreed_of_fields (Obj.data_mapFields f2 _))]
      simp
    · rw [Heap.get?_update_ne _ _ _ _ c]; exact hb
  have ff1 : (s.heap.update T (Obj.mapFields fun y => y.setIfInBounds 3 Value.none)).FunFrames base (env :: outer) := ff_kp ff fun b hb u e => k1.f b u e hb (by simpa using fun z : b = T => hT (z ▸ hb))
  generalize s.heap.update T (Obj.mapFields fun y => y.setIfInBounds 3 Value.none) = h1 at k1 x1 n1 ff1 ⊢
  refine entryX2 (s := { s with heap := h1 }) (tb := .ref T) hA ff1 hf ⟨o, vs, x1, e2, e3, e4, e5⟩ fun h' T' k2 t1 t2 F2 => q h' T' ((k1.mono (by simp)).trans (k2.mono (by simp))) ?_ t2 F2
  cases z : s.heap.get? T' with
  | none => rfl
  | some u => exact absurd t1 (n1 T' (by rw [z]; simp))
end
def CX2 (P : Program) (w : World) : CXT := fun outer H s E e s' => ∃ (x T C dx : Addr) (H' : Hp), e = .ref x ∧ s'.os = s.os ∧ AllBare s'.gens ∧ Un (frs outer) [] H H' s.heap s'.heap ∧ HOk P w H' s'.heap ∧
  s.heap.get? x = .none ∧ s.heap.get? T = .none ∧ H' x = .none ∧ H' T = .none ∧ Flies2 s'.heap x T C dx .none ∧ E (.ref C) (some dx) H'
def rem (H : Hp) (x : Addr) : Hp := fun b => if b = x then .none else H b
theorem rem_same {H : Hp} {x : Addr} : rem H x x = .none := if_pos rfl
theorem rem_ne {H : Hp} {x b : Addr} (h : b ≠ x) : rem H x b = H b := if_neg h
section
variable {X : Cx} {pins : List (Addr × Obj)} {σ : St} {H : Hp} {s : Shared}
theorem Inv.hokR (I : Inv X pins σ H s) {h' : Heap} {ch : List Addr} {x C dx : Addr} (hx : H x = some (XD1 x C dx)) (k : Kp (frs X.stack) ch s.heap h') (n : ∀ b ∈ ch, b = x ∨ H b = .none) : HOk X.prog X.w (rem H x) h' := fun b u e => by
  have bx : b ≠ x := fun z => by rw [z, rem_same] at e; cases e
  rw [rem_ne bx] at e
  have nf : ∀ c v, H c = some v → c ≠ x → c ∉ frs X.stack ∧ c ∉ ch := fun c v e cx => ⟨fun z => (by rw [I.stkFree c z] at e; cases e), fun z => (by
    rcases n c z with q | q
    · exact cx q
    · rw [q] at e; cases e)⟩
  refine (I.hok b u e).stay (fun c v hc q => ?_) (fun c q => ?_) fun c xs q => ?_
  · rcases hc with z | z
    · rw [z] at q ⊢; exact k.k _ _ q (nf b u e bx).1 (nf b u e bx).2
    · have cx : c ≠ x := fun zz => by rw [zz, hx] at z; cases z
      exact k.k _ _ q (nf c _ z cx).1 (nf c _ z cx).2
  · rw [rem_ne (fun zz => by rw [zz, hx] at q; cases q)]; exact q
  · rw [rem_ne (fun zz => by rw [zz, hx] at q; cases q)]; exact q
theorem leave_made2 {E : XK} {x C dx : Addr} {E' : Value → Shared → Prop} (I : Inv X pins σ H s) (hs : X.stack = X.env :: X.outer) (hf : X.env.frame = some X.env.locals) (hex : X.ex = []) (hx : H x = some (XD1 x C dx)) (h0 : X.H₀ x = .none) (hE : E (.ref C) (some dx) (rem H x)) :
    wpAny (model X.prog X.w) X.A (leaving X.env (.ref x)) (fun _ s'' => CX2 X.prog X.w X.outer X.H₀ X.s₀ E (.ref x) s'') E' s := by
  have ff := I.stack
  rw [hs] at ff
  obtain ⟨o, e1, e2, e3, t, e4⟩ := x_dict1 I hx
  unfold leaving
  refine wpAny_bind (note_new2 (by rw [I.ok.frames, hs]) ff hf ⟨o, _, e1, e2, e3, e4, rfl⟩ fun h2 T k1 t1 t2 F => ?_)
  refine flight_none2 (s := { s with heap := h2 }) t2 F fun h3 k2 F3 => ?_
  rw [← hs] at k1 k2 t2
  have hT : H T = .none := HOk.none I.hok t1
  have kk : Kp (frs X.stack) [x, T] s.heap h3 := (k1.mono (by simp)).trans (k2.mono (by simp))
  have sx : X.s₀.heap.get? x = .none := by
    cases q : X.s₀.heap.get? x with
    | none => rfl
    | some o' => have := I.base.free x o' q h0 (by rw [hex]; simp); rw [hx] at this; cases this
  have sT : X.s₀.heap.get? T = .none := by
    cases q : X.s₀.heap.get? T with
    | none => rfl
    | some o' =>
      obtain ⟨o2, z⟩ := I.base.there T o' q (by rw [hex]; simp)
      rw [t1] at z
      cases z
  have neL : ∀ b o, X.s₀.heap.get? b = some o → b ≠ X.env.locals := fun b o e => Nat.ne_of_lt (Nat.lt_of_lt_of_le (Heap.lt_size e) I.ok.above)
  have nch : ∀ b o, X.s₀.heap.get? b = some o → b ∉ [x, T] := fun b o e z => by
    simp only [List.mem_cons, List.not_mem_nil, or_false] at z
    rcases z with z | z
    · rw [z, sx] at e; cases e
    · rw [z, sT] at e; cases e
  have hrem : ∀ b, b ≠ x → rem H x b = H b := fun b n => rem_ne n
  refine ⟨x, T, C, dx, rem H x, rfl, I.os, I.bare, ⟨fun b o e hn nb _ => ?_, fun b o e hn hb _ => ?_, fun b o e hn hx' => ?_, fun b o e _ => ?_, fun b xs e => ?_, fun b o u e => ?_, fun b ps e => ?_⟩, I.hokR hx kk (fun b hb => ?_), sx, sT, rem_same, ?_, F3, hE⟩
  · have e1 := I.base.keep b o e hn nb (by rw [hex]; simp)
    exact kk.k b o e1 (fun z => by
      rcases (frs_stack hs hf).mp z with z | z
      · exact neL b o e z
      · exact nb z) (nch b o e)
  · obtain ⟨sl, e1⟩ := I.base.slot b o e hn hb (by rw [hex]; simp)
    obtain ⟨sl', e2⟩ := kk.f b _ e1 ((frs_stack hs hf).mpr (.inr hb)) (nch b o e)
    exact ⟨sl', e2⟩
  · by_cases c : b = x
    · rw [c]; exact rem_same
    · rw [hrem b c]; exact I.base.free b o e hn (by rw [hex]; simp)
  · obtain ⟨o', e1⟩ := I.base.there b o e (by rw [hex]; simp)
    obtain ⟨sl, e2⟩ := kk.any e1 (nch b o e)
    exact ⟨_, e2⟩
  · have z := I.base.tups b xs e
    rw [hrem b (fun c => by rw [c, hx] at z; cases z)]; exact z
  · have z := I.base.frzs b o u e
    rw [hrem b (fun c => by rw [c, hx] at z; cases z)]; exact z
  · obtain ⟨more, z⟩ := I.base.tbls b ps e
    exact ⟨more, by rw [hrem b (fun c => by rw [c, hx] at z; cases z)]; exact z⟩
  · simp only [List.mem_cons, List.not_mem_nil, or_false] at hb
    rcases hb with rfl | rfl
    · exact .inl rfl
    · exact .inr hT
  · by_cases c : T = x
    · rw [c]; exact rem_same
    · rw [hrem T c]; exact hT
end
section
variable {M : Model} {A : Around} {E : Value → Shared → Prop} {env : Env}
variable {nm q : Str} {C N : Addr} {bs bm : List Value} {hdct : Bool} {sn : List Str} {sub : List Value} {ab : Bool} {col : Option Bool} {dd : Option Addr} {k0 k1 k2 k3 k5 : Option Value} {newId : String}
theorem raise_x {s : Shared} {x : Sem Value} {Q : Flow → Shared → Prop} (hbase : bm.contains (.type "BaseException") = true) (hh : A.handled = none)
    (h : wpAny M A x (fun v s₁ => ∃ e o t, v = .ref e ∧ s₁.heap.get? C = some (excClassObj nm q C N bs bm hdct sn sub ab col dd k0 k1 k2 k3 k5 newId) ∧
      s₁.heap.get? e = some o ∧ o.cls = .ref C ∧ o.data = .fields #[.ref t, .none, .none, .none, .bool false, .none] ∧ E (.ref e) s₁) E s) :
    wpAny M A (raiseStmt env (some x) none) Q E s := by
  have hcB : (Value.ref C :: bm).contains (.type "BaseException") = true := by rw [List.contains_cons, hbase, Bool.or_true]
  unfold raiseStmt
  refine wpAny_bind (wpAny_mono h (fun v s₁ h₁ => ?_) fun _ _ x => x)
  obtain ⟨e, o, t, rfl, hC, he, hc, hd, hE⟩ := h₁
  obtain ⟨oc, od, odt, osl⟩ := o
  dsimp only at hc hd
  subst hc hd
  obtain ⟨hp, g, d, tk, os⟩ := s₁
  repeat (first | with_reducible refine wpAny_loadPart_at he ?_ | with_reducible refine wpAny_loadPart_at hC ?_ | (with_reducible refine wpAny_isSubtype_exc hC ?_; rw [hcB]) | wp_step)
  exact wpAny_raiseNew_none hh hE
end
/-- raise e, e an own exception that was just made -/
theorem ps_raise1 {P : Program} {w : World} {K : PySem.W.Frag} {mg : Str → Option Value} {base : Heap} {N : List Str} {qual : Str} {scope : Scope} {f : Addr} {cd : Value} {A : Around} {outer : List Env} {s : Shared} {H : Hp} {E : XK}
    {C D : Addr} {i : Option Value} {e : Expr} {te : TE} {pos : Pos} (M : XMk K C D i) (he : PE (cxOf (CX2 P w) P w K mg base N qual scope f cd A outer s H E) e te) :
    PS (cxOf (CX2 P w) P w K mg base N qual scope f cd A outer s H E) (.Raise (some e) .none pos) (fun _ σ H1 => te σ H1 fun v H2 => ∃ x dx, v = .ref x ∧ H2 x = some (XD1 x C dx) ∧ H x = .none ∧ E (.ref C) (some dx) (rem H2 x)) := by
  intro pins s1 σ H1 D' I h
  obtain ⟨nm', q, Nn, bs, hdct, sn, sub, ab, col, dd, k0, k1, k2, k3, k5, Bn, newId, inN, bmN, eb, hc, hl, tx, ni⟩ := M.cls
  have hh : (A.deeper (envOfC qual scope s.heap.objs.size f cd)).handled = .none := I.ok.hd rfl
  rw [arm_exec_Raise]
  refine wpAny_bind (wpAny_standAt (raise_x (C := C) (nm := nm') (q := q) (N := Nn) (bs := bs) (bm := .ref D :: veB) (hdct := hdct) (sn := sn) (sub := sub) (ab := ab) (col := col) (dd := dd) (k0 := k0) (k1 := k1) (k2 := k2) (k3 := k3) (k5 := k5) (newId := newId) (by rw [List.contains_cons, show veB.contains (Value.type "BaseException") = true by decide, Bool.or_true]) hh ?_))
  refine wpAny_bind (wpAny_mono (he pins s1 σ H1 _ I h) (fun v s2 z => wpAny_bind (wpAny_standAt (wpAny_pure ?_))) fun _ _ z => z)
  obtain ⟨y, H2, I2, r, x, dx, rfl, hx, h0, hE⟩ := z
  obtain rfl : v = .ref x := r
  obtain ⟨o, e1, e2, e3, t, e4⟩ := x_dict1 I2 hx
  exact ⟨x, o, t, rfl, I2.kIn _ _ hl, e1, e2, e4, leave_made2 I2 rfl rfl rfl hx h0 hE⟩
end L2
namespace L2
open PySem PySem.Spec PyProof.Rows PySem.W
theorem exc_up2 {M : Model} {A : Around} {E : Value → Shared → Prop} {s : Shared} {K : PySem.W.Frag} {x C D : Addr} {o : Obj} {Q : Bool → Shared → Prop} (kin : K.In s.heap) (U : XUp K D) (W : XOver K C D) (e1 : s.heap.get? x = some o) (e2 : o.cls = .ref C) (q : Q true s) : wpAny M A (excMatches (.ref x) (.ref D)) Q E s := by
  unfold excMatches
  refine wpAny_bind ?_
  unfold isInstance
  refine wpAny_bind ((looks_typeIn kin U.ty).here ((looks_subIn kin type_tuple).here ?_))
  rw [if_neg (by simp)]
  refine wpAny_bind (wpAny_pure ?_)
  refine wpAny_bind ?_
  rw [List.forIn_cons]
  refine wpAny_bind ?_
  unfold isExcClass
  refine wpAny_bind (wpAny_bind ((cls_isT U.cl kin).here ?_))
  rw [if_pos rfl]
  refine (looks_subIn kin U.be).here ?_
  rw [if_neg (by simp)]
  refine wpAny_pure ?_
  dsimp only
  rw [List.forIn_nil]
  refine wpAny_pure (wpAny_bind (wpAny_typeOf_ref e1 ?_))
  rw [e2]
  refine wpAny_bind ?_
  rw [List.forIn_cons]
  refine wpAny_bind (wpAny_bind ((looks_subIn kin (W.subIn (.ref D))).here ?_))
  rw [if_pos (by simp [veMro])]
  exact wpAny_pure (wpAny_pure (wpAny_pure q))
section
variable {X : Cx}
/-- try: body, except D as n: suite (the suite never breaks and never continues) -/
def tTry2 (K : PySem.W.Frag) (D : Addr) (i l : Nat) (tb : XK → TS) (th : TS) : TS := fun Dn σ H =>
  tb (fun cls od H' => ∃ C dx, cls = .ref C ∧ od = some dx ∧ XOver K C D ∧ ∀ (σ' : St) (x : Addr), σ'.length = l → H' x = .none →
    th { nx := fun σ2 H2 => Dn.nx (σ2.set i .none) H2, rt := Dn.rt } (σ'.set i (some (.ref x))) (upd H' x (XD x C dx))) Dn σ H
theorem ps0_try2 {i : Nat} {n nmT : Str} {D : Addr} {body suite : List Stmt} {b0 : Stmt} {np hpos pos : Pos} {tb : XK → TS} {th : TS} (hs : X.stack = X.env :: X.outer) (hf : X.env.frame = some X.env.locals) (hex : X.ex = []) (hN : X.N.Nodup) (hi : X.N[i]? = some n)
    (hl : X.env.scope.names.lookup n = some .local) (hk : X.env.kindOf n = some .local) (hg : Gl X nmT) (hm : X.mg nmT = some (.ref D)) (U : XUp X.K D)
    (hb : ∀ (Ex : Value → Shared → Prop) (E1 : XK), Passes (CX2 X.prog X.w) (X.wish Ex) E1 → PSs (X.wish Ex) body (tb E1)) (hh : ∀ x, PSs (X.hand x) (b0 :: suite) th) (hdb : (nmT == ("__debug__" : Str)) = false := by decide) :
    PS0 X (.Try body [.ExceptHandler (some (.Name nmT np)) (some n) (b0 :: suite) hpos] [] [] pos) (tTry2 X.K D i X.N.length tb th) := by
  intro s σ H Dn I h
  have kf := I.ok.kind
  refine wpAny_Try_except ?_
  refine wpAny_mono (hb (fun e s₁ => wpAny (model X.prog X.w) X.A (noteFrame e X.env) (fun _ s₂ => wpAny (model X.prog X.w) X.A (setFlight e .none) (fun _ s₃ => wpAny (model X.prog X.w) X.A (handleBy e X.env [.ExceptHandler (some (.Name nmT np)) (some n) (b0 :: suite) hpos]) (SP X [] Dn) X.xe s₃) X.xe s₂) X.xe s₁) _ ?_ [] s σ H Dn (I.wish _) h) (fun f s1 q => ?_) fun _ _ z => z
  · intro pins' σ' H1 s1 e s2 I1 cx
    obtain ⟨x, T, C, dx, H2, rfl, os, bare, un, hok, nx, nT, hx, hT, F, C', dx', eC, eD, W, q⟩ := cx
    cases eC
    cases eD
    have J1 : Inv X [] σ' H1 s1 := I1.unwish.nopins
    have ax := J1.away hex nx
    have aT := J1.away hex nT
    have J2 : Inv X [] σ' H2 s2 := J1.call' os un hok bare fun b z => absurd z (by simp)
    have fr2 := J2.stack
    rw [hs] at fr2
    have tf := aT.fr
    rw [hs] at tf
    show wpAny _ _ (noteFrame (.ref x) X.env) _ _ s2
    refine note_on2 (s := s2) (outer := X.outer) (by rw [J2.ok.frames, hs]) fr2 hf tf F fun h3 T3 k3 t3 t3' F3 => ?_
    refine flight_none2 (s := { s2 with heap := h3 }) t3' F3 fun h4 k4 F4 => ?_
    have a3 := J2.away hex t3
    rw [← hs] at k3 k4
    have k34 : Kp (frs X.stack) [x, T, T3] s2.heap h4 := (k3.mono (by simp)).trans (k4.mono (by simp))
    have hT3 : H2 T3 = .none := HOk.none J2.hok t3
    have cl : ∀ b ∈ [x, T, T3], H2 b = .none := fun b hb => by
      simp only [List.mem_cons, List.not_mem_nil, or_false] at hb
      rcases hb with rfl | rfl | rfl
      · exact hx
      · exact hT
      · exact hT3
    have aw : ∀ b ∈ [x, T, T3], Away X [] b := fun b hb => by
      simp only [List.mem_cons, List.not_mem_nil, or_false] at hb
      rcases hb with rfl | rfl | rfl
      · exact ax
      · exact aT
      · exact a3
    have J4 : Inv X [] σ' H2 { s2 with heap := h4 } := J2.move hs hf hex aw k34 (fun b _ => rfl) cl (J2.hokK k34 cl)
    refine wpAny_handleBy_cons ?_ (fun z => nomatch z)
    refine codeAny_handlers_test (ld_glob (X := X.hand x) (J4.hand x) hg hm ?_ hdb)
    obtain ⟨⟨oF, vF, f1, f2, f3, f4, f5⟩, f6⟩ := id F4
    refine exc_up2 (s := { s2 with heap := h4 }) J4.kIn U W f1 f2 ?_
    refine codeAny_handlers_suite_as ?_
    refine flight_none2 (s := { s2 with heap := h4 }) (fs := frs X.stack) a3.fr F4 fun h5 k5 F5 => ?_
    have J5 : Inv X [] σ' H2 { s2 with heap := h5 } := J4.move hs hf hex (ch := [T3]) (fun b hb => aw b (by simp at hb ⊢; exact .inr (.inr hb))) k5 (fun b _ => rfl) (fun b hb => cl b (by simp at hb ⊢; exact .inr (.inr hb))) (J4.hokK k5 fun b hb => cl b (by simp at hb ⊢; exact .inr (.inr hb)))
    obtain ⟨⟨o, vs, e1, e2, e3, e4, e5⟩, _⟩ := F5
    have xn : ∃ o, h5.get? x = some o ∧ o.cls = .ref C ∧ notCls o = true ∧ o.dict = some dx := ⟨o, e1, e2, by unfold notCls; rw [e4], e3⟩
    have hok6 : HOk X.prog X.w (upd H2 x (XD x C dx)) h5 := fun b u eb => by
      by_cases c : b = x
      · subst c
        rw [upd_same] at eb
        cases eb
        exact xd_ok xn
      · rw [upd_ne c] at eb
        refine (J5.hok b u eb).stay (fun _ _ _ q => q) (fun cc q => ?_) fun cc xs q => ?_
        · rw [upd_ne (fun z => by rw [z, hx] at q; cases q)]; exact q
        · rw [upd_ne (fun z => by rw [z, hx] at q; cases q)]; exact q
    have J6 : Inv X [] σ' (upd H2 x (XD x C dx)) { s2 with heap := h5 } := J5.move hs hf hex (ch := [x]) (fun b hb => aw b (by simp at hb ⊢; exact .inl hb)) (Kp.mono (Kp.kept fun _ _ e => e) (by simp)) (fun b hb => upd_ne (by simpa using hb)) (fun b hb => cl b (by simp at hb ⊢; exact .inl hb)) hok6
    refine store_ok (v := .ref x) J6 hN hi (.inl hl) rfl (fun s7 J7 => ?_) (.inr hl)
    refine wpAny_mono (hh x [] s7 _ _ _ (J7.hand x) (q σ' x J6.len hx)) (fun f s8 q8 => ?_) fun _ _ z => z.elim
    have done : ∀ (σ2 : St) (H8 : Hp), Inv X [] σ2 H8 s8 → ∀ {Q : Unit → Shared → Prop} {E : Value → Shared → Prop}, (∀ s9, Inv X [] (σ2.set i .none) H8 s9 → Q () s9) → wpAny (model X.prog X.w) X.A (do bindName X.env n Value.none; unbindBehindTheSuite X.env n hpos) Q E s8 := fun σ2 H8 J8 Q E q9 => by
      refine wpAny_bind (wpAny_bindName (store_ok (v := .non) J8 hN hi (.inl hl) rfl (fun s9 J9 => ?_) (.inr hl)))
      unfold unbindBehindTheSuite
      obtain ⟨m, hm9, lk⟩ := J9.loc
      have il : i < σ2.length := by rw [J8.len]; exact (List.getElem?_eq_some_iff.mp hi).1
      obtain ⟨u, ru, lk1⟩ := lk i n .non hi (by rw [List.getElem?_set_self il]) (.inl hl)
      have mn : m n = some u := by
        rcases lk1 with ⟨_, z⟩ | ⟨z, _⟩
        · exact z
        · rw [hk] at z
          rcases z with z | z <;> cases z
      refine wpAny_onRaise (wpAny_unbindName_local hk hm9 mn (by rw [kf]; rfl) fun h9 u9 ns9 sb9 => ?_)
      have := J9.unset hN hi hk lk ns9 sb9
      rw [List.set_set] at this
      exact q9 _ this
    cases f with
    | next =>
      obtain ⟨σ2, H8, J8, z⟩ := q8
      exact done σ2 H8 (J8.unhand J6.ok) fun s9 J9 => ⟨_, H8, J9, z⟩
    | ret v =>
      obtain ⟨w', σ2, H8, J8, r, z⟩ := q8
      exact done σ2 H8 (J8.unhand J6.ok) fun s9 J9 => ⟨w', _, H8, J9, r, z⟩
    | brk =>
      obtain ⟨_, _, _, z⟩ := q8
      exact z.elim
    | cont =>
      obtain ⟨_, _, _, z⟩ := q8
      exact z.elim
  · have q := SP.unwish q
    cases f with
    | next => exact wpAny_execs_nil q
    | ret v => exact q
    | brk => exact q
    | cont => exact q
end
section
variable {P : Program} {w : World} {K : PySem.W.Frag} {mg : Str → Option Value} {base : Heap}
/-- a def whose exceptions fly on -/
theorem Fun.okY {x qual : Str} {st : Stmt} {f : Addr} {fd : FuncData} {N ps : List Str} {k : Nat} {sp : Sp} (F : Fun K x qual st f fd) (S : FnScope N ps (defScope st)) (len : ∀ vs H Q E, sp vs H Q E → vs.length = ps.length)
    (hbody : ∀ (cdv : Value) (A : Around) (outer : List Env) (s : Shared) (H : Hp) (vs : List V) (Q : VK) (E : XK), Room k (A.deeper (envOfC qual (defScope st) s.heap.objs.size f cdv)) → sp vs H Q E →
      ∃ t, PSs (cxOf (CX2 P w) P w K mg base N qual (defScope st) f cdv A outer s H E) (defBody st) t ∧ t { nx := fun _ H' => Q .non H', rt := Q } (start N vs) H) : FnOk P w K mg base (CX2 P w) (k + 1) f fd ps sp := by
  obtain ⟨oc, od, kV, doc, pm, an, cdv, ct, osl, rfl, lk, hcd⟩ := F.ex
  exact fn_of lk hcd S len fun A outer s H vs Q E hr hsp => hbody cdv A outer s H vs Q E hr hsp
end
end L2
namespace Mine
open PySem L2
/-! the shares and the tails of a steepness p/q -/
def shN (p q : Int) (n : Nat) : Int := (q - p) * p ^ n
def shD (p q : Int) (n : Nat) : Int := (q + p) * q ^ n
def tlN (p q : Int) (n : Nat) : Int := q * p ^ n
/-- the tail from k on, as top and bottom -/
def tN (p q k : Int) : Int := if 0 ≤ k then tlN p q k.toNat else shD p q (1 - k).toNat - tlN p q (1 - k).toNat
def tD (p q k : Int) : Int := if 0 ≤ k then shD p q k.toNat else shD p q (1 - k).toNat
/-- as the law says it: for k at 0 and below it is what is left of the other end -/
def lN (p q k : Int) : Int := if k < 1 - k then shD p q (1 - k).toNat - tlN p q (1 - k).toNat else tlN p q k.toNat
def lD (p q k : Int) : Int := if k < 1 - k then shD p q (1 - k).toNat else shD p q k.toNat
/-! ### steepnesses and the promises -/
/-! ### two lists, item by item -/
def Two {α : Type} (R : V → α → Prop) : List V → List α → Prop
  | [], [] => True
  | v :: vs, a :: as => R v a ∧ Two R vs as
  | _, _ => False
theorem Two.mono {α : Type} {R R' : V → α → Prop} (h : ∀ v a, R v a → R' v a) : ∀ {vs : List V} {as : List α}, Two R vs as → Two R' vs as
  | [], [], _ => trivial
  | _ :: _, _ :: _, ⟨e, r⟩ => ⟨h _ _ e, Two.mono h r⟩
  | [], _ :: _, z => z.elim
  | _ :: _, [], z => z.elim
theorem Two.append {α : Type} {R : V → α → Prop} : ∀ {vs ws : List V} {as bs : List α}, Two R vs as → Two R ws bs → Two R (vs ++ ws) (as ++ bs)
  | [], _, [], _, _, r => r
  | _ :: _, _, _ :: _, _, ⟨e, r⟩, r2 => ⟨e, Two.append r r2⟩
  | [], _, _ :: _, _, z, _ => z.elim
  | _ :: _, _, [], _, z, _ => z.elim
theorem Two.length {α : Type} {R : V → α → Prop} : ∀ {vs : List V} {as : List α}, Two R vs as → vs.length = as.length
  | [], [], _ => rfl
  | _ :: _, _ :: _, ⟨_, r⟩ => by simp [Two.length r]
  | [], _ :: _, z => z.elim
  | _ :: _, [], z => z.elim
def TS (H H' : Hp) : Prop := ∀ a xs, H a = some (.tup xs) → H' a = some (.tup xs)
theorem TS.of {H H' : Hp} (s : Same H H') : TS H H' := fun _ _ e => s _ _ e
theorem TS.trans {H H1 H2 : Hp} (a : TS H H1) (b : TS H1 H2) : TS H H2 := fun c o h => b c o (a c o h)
theorem TS.lst {H : Hp} {l : Addr} {xs ys : List V} (h : H l = some (.lst xs)) : TS H (upd H l (.lst ys)) := fun a o e => by
  rw [upd_ne (ne_of e h (by intro z; cases z))]; exact e
theorem same_lst {H H1 : Hp} {l : Addr} {ys : List V} (s : Same H H1) (h : H l = none) : Same H (upd H1 l (.lst ys)) := fun b o e => by
  rw [upd_ne (ne_of_none e h)]; exact s b o e
theorem take_snoc {α : Type} {l : List α} {i : Nat} {x : α} (h : l[i]? = some x) : l.take (i + 1) = l.take i ++ [x] := by
  rw [List.take_succ, h]
  rfl
/-! ### tables: rung, top, bottom -/
/-! ### a ladder's table -/
def eN (p q lo hi n y : Int) : Int := if y = lo ∨ y = hi then tlN p q (y - n).natAbs else shN p q (y - n).natAbs
def eD (p q n y : Int) : Int := shD p q (y - n).natAbs
/-! ### the promises -/
structure Ends (lo hi : Int) : Prop where
  a : 0 ≤ lo
  b : lo ≤ hi
  c : hi ≤ 9
def taken : List Str := ["kinds", "ladder", "flat", "choose", "first", "let", "tell", "when", "else", "times", "end", "of"]
theorem flat_strs : ∀ xs : List Str, (xs.map V.str).all flatV = true
  | [] => rfl
  | _ :: r => flat_strs r
end Mine
namespace Mine
open PySem L2
/-! ### terms and their texts, as lists of signs' numbers -/
inductive PT where
  | num (n : Nat)
  | nam (x : List Nat)
  | op (s : Nat) (a b : PT)
deriving DecidableEq
def sg : List Nat := [43, 45, 42, 60, 61]
def keptL : List (List Nat) := taken.map fun x => x.cps.toList
def nmOk (x : List Nat) : Prop := 1 ≤ x.length ∧ x.length ≤ 8 ∧ (∀ c ∈ x, 97 ≤ c ∧ c ≤ 122) ∧ x ∉ keptL
instance (x : List Nat) : Decidable (nmOk x) := by unfold nmOk; infer_instance
def isD (c : Nat) : Prop := 48 ≤ c ∧ c ≤ 57
instance (c : Nat) : Decidable (isD c) := by unfold isD; infer_instance
def dg (n : Nat) : List Nat := if n < 10 then [48 + n] else if n < 100 then [48 + n / 10, 48 + n % 10] else [48 + n / 100, 48 + n / 10 % 10, 48 + n % 10]
def numOf : List Nat → Option Nat
  | [a] => if isD a then some (a - 48) else none
  | [a, b] => if isD a ∧ a ≠ 48 ∧ isD b then some ((a - 48) * 10 + (b - 48)) else none
  | [a, b, c] => if isD a ∧ a ≠ 48 ∧ isD b ∧ isD c then some ((a - 48) * 100 + (b - 48) * 10 + (c - 48)) else none
  | _ => none
theorem dg_digits {n : Nat} (h : n ≤ 999) : (∀ c ∈ dg n, isD c) ∧ 1 ≤ (dg n).length ∧ (dg n).length ≤ 3 := by
  have : ∀ m : Fin 1000, (∀ c ∈ dg m.val, isD c) ∧ 1 ≤ (dg m.val).length ∧ (dg m.val).length ≤ 3 := by decide +kernel
  exact this ⟨n, Nat.lt_succ_of_le h⟩
theorem numOf_dg {n : Nat} (h : n ≤ 999) : numOf (dg n) = some n := by
  have : ∀ m : Fin 1000, numOf (dg m.val) = some m.val := by decide +kernel
  exact this ⟨n, Nat.lt_succ_of_le h⟩
theorem numOf_some {w : List Nat} {n : Nat} (h : numOf w = some n) : n ≤ 999 ∧ w = dg n := by
  match w, h with
  | [], h => cases h
  | [a], h =>
    simp only [numOf] at h
    split at h
    · rename_i d
      cases h
      unfold isD at d
      refine ⟨by omega, ?_⟩
      unfold dg
      rw [if_pos (by omega)]; congr 1; omega
    · cases h
  | [a, b], h =>
    simp only [numOf] at h
    split at h
    · rename_i d
      cases h
      unfold isD at d
      obtain ⟨d1, d2, d3⟩ := d
      refine ⟨by omega, ?_⟩
      unfold dg
      rw [if_neg (by omega), if_pos (by omega)]
      congr 1
      · omega
      · congr 1; omega
    · cases h
  | [a, b, c], h =>
    simp only [numOf] at h
    split at h
    · rename_i d
      cases h
      unfold isD at d
      obtain ⟨d1, d2, d3, d4⟩ := d
      refine ⟨by omega, ?_⟩
      unfold dg
      rw [if_neg (by omega), if_neg (by omega)]
      congr 1
      · omega
      · congr 1
        · omega
        · congr 1; omega
    · cases h
  | _ :: _ :: _ :: _ :: _, h => cases h
def PT.ok : PT → Prop
  | .num n => n ≤ 999
  | .nam x => nmOk x
  | .op s a b => s ∈ sg ∧ a.ok ∧ b.ok
def shw : PT → List Nat
  | .num n => dg n
  | .nam x => x
  | .op s a b => 40 :: s :: 32 :: (shw a ++ 32 :: (shw b ++ [41]))
def leaf (w : List Nat) : Option PT := if nmOk w then some (.nam w) else (numOf w).map .num
/-- a leaf's text: signs that are none of blank and brackets -/
def Lf (w : List Nat) : Prop := w ≠ [] ∧ ∀ c ∈ w, c ≠ 32 ∧ c ≠ 40 ∧ c ≠ 41
theorem lf_num {n : Nat} (h : n ≤ 999) : Lf (dg n) := by
  obtain ⟨a, b, _⟩ := dg_digits h
  refine ⟨fun z => by rw [z] at b; simp at b, fun c hc => ?_⟩
  have := a c hc
  unfold isD at this
  omega
theorem lf_nam {x : List Nat} (h : nmOk x) : Lf x := by
  obtain ⟨a, _, b, _⟩ := h
  refine ⟨fun z => by rw [z] at a; simp at a, fun c hc => ?_⟩
  have := b c hc
  omega
theorem not_both {x : List Nat} {n : Nat} (h : nmOk x) : numOf x ≠ some n := fun z => by
  obtain ⟨h1, h2⟩ := numOf_some z
  obtain ⟨a, b, _⟩ := dg_digits h1
  obtain ⟨_, _, c, _⟩ := h
  rw [h2] at c
  cases q : dg n with
  | nil => rw [q] at b; simp at b
  | cons y r =>
    have h3 := a y (by rw [q]; exact List.mem_cons_self)
    have h4 := c y (by rw [q]; exact List.mem_cons_self)
    unfold isD at h3
    omega
theorem leaf_iff {w : List Nat} {t : PT} : leaf w = some t ↔ (∃ n, t = .num n ∧ n ≤ 999 ∧ w = dg n) ∨ (∃ x, t = .nam x ∧ nmOk x ∧ w = x) := by
  unfold leaf
  constructor
  · intro h
    split at h
    · rename_i k; cases h; exact .inr ⟨w, rfl, k, rfl⟩
    · obtain ⟨n, h1, h2⟩ := Option.map_eq_some_iff.mp h
      obtain ⟨a, b⟩ := numOf_some h1
      exact .inl ⟨n, h2.symm, a, b⟩
  · rintro (⟨n, rfl, a, rfl⟩ | ⟨x, rfl, a, rfl⟩)
    · rw [if_neg (fun z => not_both z (numOf_dg a)), numOf_dg a]; rfl
    · rw [if_pos a]
theorem leaf_lf {w : List Nat} {t : PT} (h : leaf w = some t) : Lf w ∧ t.ok ∧ shw t = w := by
  rcases leaf_iff.mp h with ⟨n, rfl, a, rfl⟩ | ⟨x, rfl, a, rfl⟩
  · exact ⟨lf_num a, a, rfl⟩
  · exact ⟨lf_nam a, a, rfl⟩
/-! ### joined by blanks -/
def jn : List (List Nat) → List Nat
  | [] => []
  | [w] => w
  | w :: v :: r => w ++ 32 :: jn (v :: r)
theorem jn_cons (w : List Nat) {r : List (List Nat)} (h : r ≠ []) : jn (w :: r) = w ++ 32 :: jn r := by
  cases r with
  | nil => exact absurd rfl h
  | cons v r => rfl
theorem jn_app : ∀ {p q : List (List Nat)}, p ≠ [] → q ≠ [] → jn (p ++ q) = jn p ++ 32 :: jn q
  | [], _, h, _ => absurd rfl h
  | [w], q, _, h => by rw [List.singleton_append, jn_cons w h]; rfl
  | w :: v :: r, q, _, h => by
    rw [List.cons_append, jn_cons w (by simp), jn_app (p := v :: r) (by simp) h, jn_cons w (by simp)]
    simp
theorem cut_inj : ∀ {a b c d : List Nat}, 32 ∉ a → 32 ∉ b → a ++ 32 :: c = b ++ 32 :: d → a = b ∧ c = d
  | [], [], _, _, _, _, h => by simpa using h
  | [], y :: b, _, _, _, hb, h => by
    have : 32 = y := (List.cons.inj h).1
    exact absurd (by rw [← this]; exact List.mem_cons_self) hb
  | x :: a, [], _, _, ha, _, h => by
    have : x = 32 := (List.cons.inj h).1
    exact absurd (by rw [this]; exact List.mem_cons_self) ha
  | x :: a, y :: b, _, _, ha, hb, h => by
    obtain ⟨h1, h2⟩ := List.cons.inj h
    obtain ⟨h3, h4⟩ := cut_inj (fun z => ha (List.mem_cons_of_mem _ z)) (fun z => hb (List.mem_cons_of_mem _ z)) h2
    exact ⟨by rw [h1, h3], h4⟩
theorem jn_inj : ∀ {p q : List (List Nat)}, p ≠ [] → q ≠ [] → (∀ w ∈ p, 32 ∉ w) → (∀ w ∈ q, 32 ∉ w) → jn p = jn q → p = q
  | [], _, h, _, _, _, _ => absurd rfl h
  | _, [], _, h, _, _, _ => absurd rfl h
  | [w], [v], _, _, _, _, h => by rw [show w = v from h]
  | [w], v :: u :: r, _, _, hp, _, h => by
    have h : w = v ++ 32 :: jn (u :: r) := h
    exact absurd (by rw [h]; simp) (hp w List.mem_cons_self)
  | w :: u :: r, [v], _, _, _, hq, h => by
    have h : w ++ 32 :: jn (u :: r) = v := h
    exact absurd (by rw [← h]; simp) (hq v List.mem_cons_self)
  | w :: u :: r, v :: x :: t, _, _, hp, hq, h => by
    obtain ⟨h1, h2⟩ := cut_inj (hp w List.mem_cons_self) (hq v List.mem_cons_self) (show w ++ 32 :: jn (u :: r) = v ++ 32 :: jn (x :: t) from h)
    rw [h1, jn_inj (p := u :: r) (q := x :: t) (by simp) (by simp) (fun y hy => hp y (List.mem_cons_of_mem _ hy)) (fun y hy => hq y (List.mem_cons_of_mem _ hy)) h2]
/-! ### the words of a term's text -/
def ws : PT → Nat → List (List Nat)
  | .num n, c => [dg n ++ List.replicate c 41]
  | .nam x, c => [x ++ List.replicate c 41]
  | .op s a b, c => [40, s] :: (ws a 0 ++ ws b (c + 1))
theorem ws_ne : ∀ (t : PT) (c : Nat), ws t c ≠ []
  | .num _, _ => by simp [ws]
  | .nam _, _ => by simp [ws]
  | .op _ _ _, _ => by simp [ws]
theorem jn_ws : ∀ (t : PT) (c : Nat), jn (ws t c) = shw t ++ List.replicate c 41
  | .num _, _ => rfl
  | .nam _, _ => rfl
  | .op s a b, c => by
    show jn ([40, s] :: (ws a 0 ++ ws b (c + 1))) = _
    rw [jn_cons _ (by simp [ws_ne]), jn_app (ws_ne a 0) (ws_ne b _), jn_ws a 0, jn_ws b (c + 1), List.replicate_succ]
    simp [shw]
theorem rep_ne {c : Nat} {n : Nat} (h : c ≠ 41) : c ∉ List.replicate n 41 := fun z => h (List.eq_of_mem_replicate z)
theorem ws_free : ∀ {t : PT} {c : Nat}, t.ok → ∀ w ∈ ws t c, 32 ∉ w
  | .num n, c, h, w, hw => by
    rw [List.mem_singleton.mp hw]
    intro z
    rcases List.mem_append.mp z with z | z
    · exact ((lf_num h).2 _ z).1 rfl
    · exact rep_ne (by decide) z
  | .nam x, c, h, w, hw => by
    rw [List.mem_singleton.mp hw]
    intro z
    rcases List.mem_append.mp z with z | z
    · exact ((lf_nam h).2 _ z).1 rfl
    · exact rep_ne (by decide) z
  | .op s a b, c, h, w, hw => by
    rcases List.mem_cons.mp hw with e | e
    · rw [e]
      intro z
      have hs := h.1
      simp only [List.mem_cons, List.not_mem_nil, or_false] at z
      unfold sg at hs
      simp only [List.mem_cons, List.not_mem_nil, or_false] at hs
      omega
    · rcases List.mem_append.mp e with e | e
      · exact ws_free h.2.1 w e
      · exact ws_free h.2.2 w e
/-! ### the machine of the program's reader -/
structure Sta where
  base : List PT
  ups : List (Nat × List PT)
def Sta.push (t : PT) : Sta → Sta
  | ⟨b, []⟩ => ⟨b ++ [t], []⟩
  | ⟨b, (s, l) :: r⟩ => ⟨b, (s, l ++ [t]) :: r⟩
def Sta.close : Sta → Option Sta
  | ⟨b, (s, [x, y]) :: r⟩ => some (Sta.push (.op s x y) ⟨b, r⟩)
  | _ => none
def Sta.closeN : Nat → Sta → Option Sta
  | 0, st => some st
  | n + 1, st => (st.close).bind (Sta.closeN n)
/-- without the closing brackets at its end -/
def rs (w : List Nat) : List Nat := (w.reverse.dropWhile (fun c => decide (c = 41))).reverse
def wordA (w : List Nat) (st : Sta) : Option Sta :=
  if w.head? = some 40 then (match w.tail with | [s] => if s ∈ sg then some ⟨st.base, (s, []) :: st.ups⟩ else none | _ => none)
  else (leaf (rs w)).bind fun t => Sta.closeN (w.length - (rs w).length) (st.push t)
def runA : List (List Nat) → Sta → Option Sta
  | [], st => some st
  | w :: r, st => (wordA w st).bind (runA r)
def endA : Sta → Option PT
  | ⟨[t], []⟩ => some t
  | _ => none
def readA (l : List (List Nat)) : Option PT := (runA l ⟨[], []⟩).bind endA
theorem rs_app {w : List Nat} (h : Lf w) (c : Nat) : rs (w ++ List.replicate c 41) = w := by
  unfold rs
  rw [List.reverse_append, List.reverse_replicate]
  have : List.dropWhile (fun c => decide (c = 41)) (List.replicate c 41 ++ w.reverse) = w.reverse := by
    induction c with
    | zero =>
      rw [List.replicate_zero, List.nil_append]
      cases q : w.reverse with
      | nil => rfl
      | cons y r =>
        have : y ∈ w := List.mem_reverse.mp (by rw [q]; exact List.mem_cons_self)
        rw [List.dropWhile_cons_of_neg (by simpa using (h.2 y this).2.2)]
    | succ c ih => rw [List.replicate_succ, List.cons_append, List.dropWhile_cons_of_pos (by simp)]; exact ih
  rw [this, List.reverse_reverse]
theorem rs_split (w : List Nat) : w = rs w ++ List.replicate (w.length - (rs w).length) 41 := by
  have key : ∀ l : List Nat, l = List.replicate (l.length - (l.dropWhile (fun c => decide (c = 41))).length) 41 ++ l.dropWhile (fun c => decide (c = 41)) := by
    intro l
    induction l with
    | nil => rfl
    | cons x r ih =>
      by_cases c : x = 41
      · rw [List.dropWhile_cons_of_pos (by simpa using c)]
        have le : (r.dropWhile (fun c => decide (c = 41))).length ≤ r.length := (List.dropWhile_suffix _).length_le
        rw [show (x :: r).length - (List.dropWhile (fun c => decide (c = 41)) r).length = (r.length - (List.dropWhile (fun c => decide (c = 41)) r).length) + 1 from by rw [List.length_cons]; omega, List.replicate_succ, List.cons_append, ← ih, c]
      · rw [List.dropWhile_cons_of_neg (by simpa using c), Nat.sub_self]; rfl
  have k := congrArg List.reverse (key w.reverse)
  rw [List.reverse_reverse, List.reverse_append, List.reverse_replicate, List.length_reverse] at k
  unfold rs
  rw [List.length_reverse]
  exact k
theorem runA_app : ∀ (p q : List (List Nat)) (st : Sta), runA (p ++ q) st = (runA p st).bind (runA q)
  | [], _, _ => rfl
  | w :: r, q, st => by
    show (wordA w st).bind (runA (r ++ q)) = ((wordA w st).bind (runA r)).bind (runA q)
    cases wordA w st with
    | none => rfl
    | some z => exact runA_app r q z
theorem wordA_leaf {w : List Nat} {t : PT} (h : leaf w = some t) (c : Nat) (st : Sta) : wordA (w ++ List.replicate c 41) st = Sta.closeN c (st.push t) := by
  obtain ⟨lf, _, _⟩ := leaf_lf h
  unfold wordA
  rw [if_neg, rs_app lf, h, List.length_append, List.length_replicate, Nat.add_sub_cancel_left]
  · rfl
  · cases q : w with
    | nil => exact absurd q lf.1
    | cons y r =>
      intro z
      have z : some y = some 40 := z
      exact (lf.2 y (by rw [q]; exact List.mem_cons_self)).2.1 (Option.some.inj z)
/-- running over a term's words: it is laid upon the top, then the brackets close -/
theorem runA_ws : ∀ (t : PT) (c : Nat) (st : Sta), t.ok → runA (ws t c) st = Sta.closeN c (st.push t)
  | .num n, c, st, h => by
    show (wordA (dg n ++ List.replicate c 41) st).bind (runA []) = _
    rw [wordA_leaf (t := .num n) (leaf_iff.mpr (.inl ⟨n, rfl, h, rfl⟩))]
    cases Sta.closeN c (st.push (.num n)) <;> rfl
  | .nam x, c, st, h => by
    show (wordA (x ++ List.replicate c 41) st).bind (runA []) = _
    rw [wordA_leaf (t := .nam x) (leaf_iff.mpr (.inr ⟨x, rfl, h, rfl⟩))]
    cases Sta.closeN c (st.push (.nam x)) <;> rfl
  | .op s a b, c, st, h => by
    show (wordA [40, s] st).bind (runA (ws a 0 ++ ws b (c + 1))) = _
    have e : wordA [40, s] st = some ⟨st.base, (s, []) :: st.ups⟩ := by
      unfold wordA
      rw [if_pos (show [40, s].head? = some 40 from rfl)]
      exact if_pos h.1
    rw [e, Option.bind_some, runA_app, runA_ws a 0 _ h.2.1]
    show (some (Sta.push a ⟨st.base, (s, []) :: st.ups⟩)).bind (runA (ws b (c + 1))) = _
    rw [Option.bind_some, runA_ws b (c + 1) _ h.2.2]
    rfl
theorem readA_ws {t : PT} (h : t.ok) : readA (ws t 0) = some t := by
  unfold readA
  rw [runA_ws t 0 _ h]
  rfl
/-! what a state has taken in -/
def addB : List (List Nat) → List (List Nat)
  | [] => []
  | [w] => [w ++ [41]]
  | w :: v :: r => w :: addB (v :: r)
theorem addB_app : ∀ (p : List (List Nat)) {q : List (List Nat)}, q ≠ [] → addB (p ++ q) = p ++ addB q
  | [], _, _ => rfl
  | [w], q, h => by
    cases q with
    | nil => exact absurd rfl h
    | cons v r => rfl
  | w :: v :: r, q, h => by
    have := addB_app (v :: r) h
    show w :: addB (v :: r ++ q) = _
    rw [this]; rfl
theorem ws_addB : ∀ (t : PT) (c : Nat), ws t (c + 1) = addB (ws t c)
  | .num n, c => by show [dg n ++ List.replicate (c + 1) 41] = [dg n ++ List.replicate c 41 ++ [41]]; rw [List.replicate_succ', List.append_assoc]
  | .nam x, c => by show [x ++ List.replicate (c + 1) 41] = [x ++ List.replicate c 41 ++ [41]]; rw [List.replicate_succ', List.append_assoc]
  | .op s a b, c => by
    show [40, s] :: (ws a 0 ++ ws b (c + 1 + 1)) = addB ([[40, s]] ++ (ws a 0 ++ ws b (c + 1)))
    rw [addB_app _ (by simp [ws_ne]), addB_app _ (ws_ne b _), ws_addB b (c + 1)]
    rfl
def wsL (ts : List PT) : List (List Nat) := ts.flatMap fun t => ws t 0
def wsU : List (Nat × List PT) → List (List Nat)
  | [] => []
  | (s, l) :: r => wsU r ++ ([40, s] :: wsL l)
def Sta.words (st : Sta) : List (List Nat) := wsL st.base ++ wsU st.ups
def Sta.good (st : Sta) : Prop := (∀ t ∈ st.base, t.ok) ∧ ∀ e ∈ st.ups, e.1 ∈ sg ∧ ∀ t ∈ e.2, t.ok
theorem push_words (t : PT) (st : Sta) : (st.push t).words = st.words ++ ws t 0 := by
  obtain ⟨b, u⟩ := st
  cases u with
  | nil => simp [Sta.push, Sta.words, wsU, wsL]
  | cons e r => obtain ⟨s, l⟩ := e; simp [Sta.push, Sta.words, wsU, wsL]
theorem push_good {t : PT} {st : Sta} (h : st.good) (k : t.ok) : (st.push t).good := by
  obtain ⟨b, u⟩ := st
  cases u with
  | nil =>
    refine ⟨fun x hx => ?_, h.2⟩
    rcases List.mem_append.mp hx with e | e
    · exact h.1 x e
    · rw [List.mem_singleton.mp e]; exact k
  | cons e r =>
    obtain ⟨s, l⟩ := e
    refine ⟨h.1, fun e he => ?_⟩
    rcases List.mem_cons.mp he with q | q
    · rw [q]
      have := h.2 (s, l) List.mem_cons_self
      refine ⟨this.1, fun x hx => ?_⟩
      rcases List.mem_append.mp hx with z | z
      · exact this.2 x z
      · rw [List.mem_singleton.mp z]; exact k
    · exact h.2 e (List.mem_cons_of_mem _ q)
theorem close_words {st st' : Sta} (h : st.close = some st') : st'.words = addB st.words := by
  obtain ⟨b, u⟩ := st
  match u, h with
  | (s, [x, y]) :: r, h =>
    cases h
    rw [push_words]
    show wsL b ++ wsU r ++ ([40, s] :: (ws x 0 ++ ws y 1)) = addB (wsL b ++ (wsU r ++ ([40, s] :: wsL [x, y])))
    have e : wsL b ++ (wsU r ++ ([40, s] :: wsL [x, y])) = (wsL b ++ wsU r ++ ([[40, s]] ++ ws x 0)) ++ ws y 0 := by simp [wsL]
    rw [e, addB_app _ (ws_ne y 0), ws_addB y 0]
    simp
theorem close_good {st st' : Sta} (g : st.good) (h : st.close = some st') : st'.good := by
  obtain ⟨b, u⟩ := st
  match u, h, g with
  | (s, [x, y]) :: r, h, g =>
    cases h
    have := g.2 (s, [x, y]) List.mem_cons_self
    exact push_good ⟨g.1, fun e he => g.2 e (List.mem_cons_of_mem _ he)⟩ ⟨this.1, this.2 x List.mem_cons_self, this.2 y (List.mem_cons_of_mem _ List.mem_cons_self)⟩
theorem closeN_words : ∀ {n : Nat} {st st' : Sta} {p : List (List Nat)} {w : List Nat}, st.good → st.words = p ++ [w] → Sta.closeN n st = some st' → st'.good ∧ st'.words = p ++ [w ++ List.replicate n 41]
  | 0, st, st', p, w, g, e, h => by cases h; exact ⟨g, by rw [e]; simp⟩
  | n + 1, st, st', p, w, g, e, h => by
    obtain ⟨s1, h1, h2⟩ := Option.bind_eq_some_iff.mp h
    have e1 : s1.words = p ++ [w ++ [41]] := by rw [close_words h1, e, addB_app _ (by simp)]; rfl
    obtain ⟨a, b⟩ := closeN_words (close_good g h1) e1 h2
    refine ⟨a, ?_⟩
    rw [b, List.replicate_succ]
    simp
theorem wordA_words {w : List Nat} {st st' : Sta} (g : st.good) (h : wordA w st = some st') : st'.good ∧ st'.words = st.words ++ [w] := by
  unfold wordA at h
  split at h
  · rename_i hd
    cases w with
    | nil => cases hd
    | cons y r =>
      have : y = 40 := Option.some.inj hd
      subst this
      match r, h with
      | [s], h =>
        simp only [List.tail_cons] at h
        split at h
        · rename_i hs
          cases h
          refine ⟨⟨g.1, fun e he => ?_⟩, ?_⟩
          · rcases List.mem_cons.mp he with q | q
            · rw [q]; exact ⟨hs, fun t ht => absurd ht List.not_mem_nil⟩
            · exact g.2 e q
          · show wsL st.base ++ (wsU st.ups ++ [[40, s]]) = _
            rw [← List.append_assoc]; rfl
        · cases h
      | [], h => cases h
      | _ :: _ :: _, h => cases h
  · obtain ⟨t, h1, h2⟩ := Option.bind_eq_some_iff.mp h
    obtain ⟨lf, ok, sh⟩ := leaf_lf h1
    have e : (st.push t).words = st.words ++ [rs w] := by
      rw [push_words]
      rcases leaf_iff.mp h1 with ⟨n, rfl, _, q⟩ | ⟨x, rfl, _, q⟩
      · rw [q]; show _ ++ [dg n ++ []] = _; rw [List.append_nil]
      · rw [q]; show _ ++ [x ++ []] = _; rw [List.append_nil]
    obtain ⟨a, b⟩ := closeN_words (push_good g ok) e h2
    exact ⟨a, by rw [b, ← rs_split]⟩
theorem runA_words : ∀ {l : List (List Nat)} {st st' : Sta}, st.good → runA l st = some st' → st'.good ∧ st'.words = st.words ++ l
  | [], st, st', g, h => by cases h; exact ⟨g, by simp⟩
  | w :: r, st, st', g, h => by
    obtain ⟨s1, h1, h2⟩ := Option.bind_eq_some_iff.mp h
    obtain ⟨g1, e1⟩ := wordA_words g h1
    obtain ⟨a, b⟩ := runA_words g1 h2
    exact ⟨a, by rw [b, e1]; simp⟩
theorem readA_some {l : List (List Nat)} {t : PT} (h : readA l = some t) : t.ok ∧ l = ws t 0 := by
  unfold readA at h
  obtain ⟨st, h1, h2⟩ := Option.bind_eq_some_iff.mp h
  obtain ⟨g, e⟩ := runA_words (st := ⟨[], []⟩) ⟨fun _ z => absurd z List.not_mem_nil, fun _ z => absurd z List.not_mem_nil⟩ h1
  have key : ∃ x, st = ⟨[x], []⟩ ∧ t = x := by
    obtain ⟨b, u⟩ := st
    match b, u, h2 with
    | [x], [], h2 => cases h2; exact ⟨_, rfl, rfl⟩
  obtain ⟨x, rfl, rfl⟩ := key
  refine ⟨g.1 t List.mem_cons_self, ?_⟩
  have e : wsL [t] ++ wsU [] = [] ++ l := e
  simpa [wsL, wsU] using e.symm
/-- the text's words, parted at blanks -/
theorem readA_iff {l : List (List Nat)} (hn : l ≠ []) (hf : ∀ w ∈ l, 32 ∉ w) {t : PT} : readA l = some t ↔ t.ok ∧ jn l = shw t := by
  constructor
  · intro h
    obtain ⟨a, b⟩ := readA_some h
    refine ⟨a, ?_⟩
    rw [b, jn_ws]; simp
  · rintro ⟨a, b⟩
    have : l = ws t 0 := jn_inj hn (ws_ne t 0) hf (fun w hw => ws_free a w hw) (by rw [b, jn_ws]; simp)
    rw [this]
    exact readA_ws a
end Mine
namespace Mine
open PySem L2
/-! ### the law's reader: parted at its outer blanks -/
def prt : List Nat → Nat → List (List Nat) → List Nat → Option (List (List Nat))
  | [], _, done, cur => some (done ++ [cur])
  | c :: r, d, done, cur =>
    if c = 40 then prt r (d + 1) done (cur ++ [c])
    else if c = 41 then (if d = 0 then none else prt r (d - 1) done (cur ++ [c]))
    else if c = 32 ∧ d = 0 then prt r d (done ++ [cur]) [] else prt r d done (cur ++ [c])
theorem jn_last (done : List (List Nat)) (cur : List Nat) (x : List Nat) : jn (done ++ [cur ++ x]) = jn (done ++ [cur]) ++ x := by
  cases done with
  | nil => rfl
  | cons w r => rw [jn_app (by simp) (by simp), jn_app (p := w :: r) (by simp) (by simp)]; simp [jn]
theorem prt_join : ∀ (t : List Nat) (d : Nat) (done : List (List Nat)) (cur : List Nat) {ps : List (List Nat)}, prt t d done cur = some ps → jn ps = jn (done ++ [cur]) ++ t
  | [], d, done, cur, ps, h => by cases h; simp
  | c :: r, d, done, cur, ps, h => by
    have fin : prt r d done (cur ++ [c]) = some ps ∨ prt r (d + 1) done (cur ++ [c]) = some ps ∨ prt r (d - 1) done (cur ++ [c]) = some ps → jn ps = jn (done ++ [cur]) ++ (c :: r) := fun z => by
      have : jn ps = jn (done ++ [cur ++ [c]]) ++ r := by
        rcases z with z | z | z <;> exact prt_join r _ _ _ z
      rw [this, jn_last]; simp
    unfold prt at h
    split at h
    · exact fin (.inr (.inl h))
    · split at h
      · split at h
        · cases h
        · exact fin (.inr (.inr h))
      · split at h
        · rename_i hc
          have := prt_join r _ _ _ h
          rw [this, jn_app (p := done ++ [cur]) (by simp) (by simp), hc.1]
          simp [jn]
        · exact fin (.inl h)
theorem prt_plain : ∀ (w : List Nat) (rest : List Nat) (d : Nat) (done : List (List Nat)) (cur : List Nat), (∀ c ∈ w, c ≠ 40 ∧ c ≠ 41 ∧ (c = 32 → d ≠ 0)) → prt (w ++ rest) d done cur = prt rest d done (cur ++ w)
  | [], rest, d, done, cur, _ => by simp
  | c :: r, rest, d, done, cur, h => by
    obtain ⟨h1, h2, h3⟩ := h c List.mem_cons_self
    rw [List.cons_append]
    show (if c = 40 then _ else if c = 41 then _ else if c = 32 ∧ d = 0 then _ else prt (r ++ rest) d done (cur ++ [c])) = _
    rw [if_neg h1, if_neg h2, if_neg (fun z => h3 z.1 z.2), prt_plain r rest d done (cur ++ [c]) fun x hx => h x (List.mem_cons_of_mem _ hx)]
    simp
theorem sg_plain {s : Nat} (h : s ∈ sg) : s ≠ 40 ∧ s ≠ 41 ∧ s ≠ 32 := by
  unfold sg at h
  simp only [List.mem_cons, List.not_mem_nil, or_false] at h
  omega
theorem prt_shw : ∀ (t : PT) (rest : List Nat) (d : Nat) (done : List (List Nat)) (cur : List Nat), t.ok → prt (shw t ++ rest) d done cur = prt rest d done (cur ++ shw t)
  | .num n, rest, d, done, cur, h => prt_plain _ _ _ _ _ fun c hc => have := (lf_num h).2 c hc; ⟨this.2.1, this.2.2, fun z => absurd z this.1⟩
  | .nam x, rest, d, done, cur, h => prt_plain _ _ _ _ _ fun c hc => have := (lf_nam h).2 c hc; ⟨this.2.1, this.2.2, fun z => absurd z this.1⟩
  | .op s a b, rest, d, done, cur, h => by
    obtain ⟨s1, s2, s3⟩ := sg_plain h.1
    have e : shw (.op s a b) ++ rest = 40 :: ([s, 32] ++ (shw a ++ ([32] ++ (shw b ++ (41 :: rest))))) := by simp [shw]
    rw [e]
    show (if (40 : Nat) = 40 then prt ([s, 32] ++ (shw a ++ ([32] ++ (shw b ++ (41 :: rest))))) (d + 1) done (cur ++ [40]) else _) = _
    rw [if_pos rfl, prt_plain [s, 32] _ (d + 1) done _ (fun c hc => by
      have : c = s ∨ c = 32 := by simpa using hc
      rcases this with e | e
      · rw [e]; exact ⟨s1, s2, fun z => absurd z s3⟩
      · rw [e]; exact ⟨by decide, by decide, fun _ => by omega⟩)]
    rw [prt_shw a _ _ _ _ h.2.1, prt_plain [32] _ (d + 1) done _ (fun c hc => by
      have : c = 32 := by simpa using hc
      rw [this]; exact ⟨by decide, by decide, fun _ => by omega⟩), prt_shw b _ _ _ _ h.2.2]
    show (if (41 : Nat) = 40 then _ else if (41 : Nat) = 41 then (if d + 1 = 0 then none else prt rest (d + 1 - 1) done (_ ++ [41])) else _) = _
    rw [if_neg (by decide), if_pos rfl, if_neg (by omega), Nat.add_sub_cancel]
    congr 1
    simp [shw]
def parts (t : List Nat) : List (List Nat) := (prt t 0 [] []).getD []
theorem parts_two {a b : PT} (ha : a.ok) (hb : b.ok) : parts (shw a ++ 32 :: shw b) = [shw a, shw b] := by
  unfold parts
  rw [prt_shw a _ _ _ _ ha]
  show (Option.getD (if (32 : Nat) = 40 then _ else if (32 : Nat) = 41 then _ else if (32 : Nat) = 32 ∧ (0 : Nat) = 0 then prt (shw b) 0 ([] ++ [[] ++ shw a]) [] else _) []) = _
  rw [if_neg (by decide), if_neg (by decide), if_pos ⟨rfl, rfl⟩]
  have := prt_shw b [] 0 ([] ++ [[] ++ shw a]) [] hb
  rw [List.append_nil] at this
  rw [this]
  rfl
theorem parts_join {t : List Nat} (h : parts t ≠ []) : jn (parts t) = t := by
  unfold parts at h ⊢
  cases q : prt t 0 [] [] with
  | none => rw [q] at h; exact absurd rfl h
  | some ps =>
    have := prt_join t 0 [] [] q
    rw [Option.getD_some, this]
    rfl
def hasSg (t : List Nat) : Bool := match t[1]? with
  | some s => decide (s ∈ sg)
  | none => false
def opn (t : List Nat) : Prop := 7 ≤ t.length ∧ t.getLast? = some 41 ∧ hasSg t = true ∧ t[2]? = some 32
instance (t : List Nat) : Decidable (opn t) := by unfold opn; infer_instance
def two : List (Option PT) → Option (PT × PT)
  | [some a, some b] => some (a, b)
  | _ => none
theorem two_len : ∀ {l : List (Option PT)} {e : PT × PT}, two l = some e → l.length = 2
  | [some _, some _], _, _ => rfl
  | [], _, h => by cases h
  | [some _], _, h => by cases h
  | [none], _, h => by cases h
  | [none, _], _, h => by cases h
  | [some _, none], _, h => by cases h
  | none :: _ :: _ :: _, _, h => by cases h
  | some _ :: none :: _ :: _, _, h => by cases h
  | some _ :: some _ :: _ :: _, _, h => by cases h
def readB : Nat → List Nat → Option PT
  | 0, _ => none
  | n + 1, t => if t.head? = some 40 then (if opn t then (two ((parts ((t.drop 3).dropLast)).map (readB n))).map fun e => .op (t.getD 1 0) e.1 e.2 else none) else leaf t
theorem shape {t : List Nat} (h : t.head? = some 40) (k : opn t) : t = 40 :: t.getD 1 0 :: 32 :: ((t.drop 3).dropLast ++ [41]) ∧ t.getD 1 0 ∈ sg := by
  obtain ⟨k1, k2, k3, k4⟩ := k
  match t, h, k1, k2, k3, k4 with
  | a :: s :: b :: r, h, k1, k2, k3, k4 =>
    have ha : a = 40 := Option.some.inj h
    have hb : b = 32 := Option.some.inj k4
    subst ha hb
    refine ⟨?_, of_decide_eq_true k3⟩
    have rn : r ≠ [] := fun z => by rw [z] at k1; simp at k1
    have e : r = r.dropLast ++ [41] := by
      have l : r.getLast? = some 41 := by
        rw [List.getLast?_cons_cons, List.getLast?_cons_cons] at k2
        cases r with
        | nil => exact absurd rfl rn
        | cons x y => rw [List.getLast?_cons_cons] at k2; exact k2
      have q := List.dropLast_concat_getLast rn
      have q2 : r.getLast rn = 41 := by rw [List.getLast?_eq_some_getLast rn] at l; exact Option.some.inj l
      rw [q2] at q
      exact q.symm
    show 40 :: s :: 32 :: r = 40 :: s :: 32 :: (r.dropLast ++ [41])
    rw [← e]
theorem shw_pos : ∀ {t : PT}, t.ok → 1 ≤ (shw t).length
  | .num n, h => (dg_digits h).2.1
  | .nam x, h => h.1
  | .op _ _ _, _ => by simp [shw]
theorem shw_head {t : PT} (h : t.ok) : (shw t).head? = some 40 ↔ ∃ s a b, t = .op s a b := by
  cases t with
  | num n =>
    refine ⟨fun z => ?_, fun ⟨_, _, _, e⟩ => by cases e⟩
    cases q : shw (.num n) with
    | nil => rw [q] at z; cases z
    | cons y r =>
      rw [q] at z
      have : y = 40 := Option.some.inj z
      have m : y ∈ dg n := by rw [show dg n = y :: r from q]; exact List.mem_cons_self
      exact absurd this ((lf_num h).2 y m).2.1
  | nam x =>
    refine ⟨fun z => ?_, fun ⟨_, _, _, e⟩ => by cases e⟩
    cases q : shw (.nam x) with
    | nil => rw [q] at z; cases z
    | cons y r =>
      rw [q] at z
      have : y = 40 := Option.some.inj z
      have m : y ∈ x := by rw [show x = y :: r from q]; exact List.mem_cons_self
      exact absurd this ((lf_nam h).2 y m).2.1
  | op s a b => exact ⟨fun _ => ⟨s, a, b, rfl⟩, fun _ => rfl⟩
def cnt (t : List Nat) : Nat := t.count 40
theorem cnt_op (s : Nat) (a b : PT) : cnt (shw a) + cnt (shw b) + 1 ≤ cnt (shw (.op s a b)) := by
  unfold cnt
  show _ ≤ List.count 40 (40 :: s :: 32 :: (shw a ++ 32 :: (shw b ++ [41])))
  rw [List.count_cons, List.count_cons, List.count_cons, List.count_append, List.count_cons, List.count_append, List.count_cons]
  simp only [List.count_nil]
  have h40 : ((40 : Nat) == 40) = true := rfl
  rw [h40, if_pos rfl]
  omega
theorem readB_shw : ∀ {n : Nat} {t : PT}, t.ok → cnt (shw t) < n → readB n (shw t) = some t
  | 0, _, _, h => absurd h (by omega)
  | n + 1, t, h, hc => by
    cases t with
    | num m =>
      show (if (shw (.num m)).head? = some 40 then _ else leaf (dg m)) = _
      rw [if_neg (fun z => by obtain ⟨_, _, _, e⟩ := (shw_head h).mp z; cases e)]
      exact leaf_iff.mpr (.inl ⟨m, rfl, h, rfl⟩)
    | nam x =>
      show (if (shw (.nam x)).head? = some 40 then _ else leaf x) = _
      rw [if_neg (fun z => by obtain ⟨_, _, _, e⟩ := (shw_head h).mp z; cases e)]
      exact leaf_iff.mpr (.inr ⟨x, rfl, h, rfl⟩)
    | op s a b =>
      have co := cnt_op s a b
      have pa := shw_pos h.2.1
      have pb := shw_pos h.2.2
      have o : opn (shw (.op s a b)) := by
        refine ⟨?_, ?_, decide_eq_true h.1, rfl⟩
        · show 7 ≤ (40 :: s :: 32 :: (shw a ++ 32 :: (shw b ++ [41]))).length
          simp; omega
        · show (40 :: s :: 32 :: (shw a ++ 32 :: (shw b ++ [41]))).getLast? = some 41
          rw [show 40 :: s :: 32 :: (shw a ++ 32 :: (shw b ++ [41])) = (40 :: s :: 32 :: (shw a ++ 32 :: shw b)) ++ [41] from by simp, List.getLast?_concat]
      have inn : ((shw (.op s a b)).drop 3).dropLast = shw a ++ 32 :: shw b := by
        show (shw a ++ 32 :: (shw b ++ [41])).dropLast = _
        rw [show shw a ++ 32 :: (shw b ++ [41]) = (shw a ++ 32 :: shw b) ++ [41] from by simp, List.dropLast_concat]
      show (if (shw (.op s a b)).head? = some 40 then (if opn (shw (.op s a b)) then (two ((parts (((shw (.op s a b)).drop 3).dropLast)).map (readB n))).map fun e => PT.op ((shw (.op s a b)).getD 1 0) e.1 e.2 else none) else leaf (shw (.op s a b))) = some (PT.op s a b)
      rw [if_pos (show (shw (.op s a b)).head? = some 40 from rfl), if_pos o, inn, parts_two h.2.1 h.2.2]
      rw [List.map_cons, List.map_cons, List.map_nil, readB_shw h.2.1 (by omega), readB_shw h.2.2 (by omega)]
      rfl
theorem readB_some : ∀ {n : Nat} {t : List Nat} {T : PT}, readB n t = some T → T.ok ∧ t = shw T
  | 0, _, _, h => by cases h
  | n + 1, t, T, h => by
    unfold readB at h
    split at h
    · rename_i hd
      split at h
      · rename_i o
        obtain ⟨e, h1, h2⟩ := Option.map_eq_some_iff.mp h
        obtain ⟨sh, hs⟩ := shape hd o
        obtain ⟨a, b⟩ := e
        have hp : ∃ p q, parts ((t.drop 3).dropLast) = [p, q] ∧ readB n p = some a ∧ readB n q = some b := by
          generalize parts ((t.drop 3).dropLast) = l at h1
          match l, h1 with
          | [p, q], h1 =>
            rw [List.map_cons, List.map_cons, List.map_nil] at h1
            cases x : readB n p with
            | none => rw [x] at h1; cases h1
            | some a' =>
              cases y : readB n q with
              | none => rw [x, y] at h1; cases h1
              | some b' => rw [x, y] at h1; cases h1; exact ⟨p, q, rfl, x, y⟩
          | [], h1 => cases h1
          | [p], h1 =>
            have := two_len h1
            rw [List.length_map] at this
            cases this
          | p :: q :: r :: l, h1 =>
            have := two_len h1
            rw [List.length_map] at this
            simp only [List.length_cons] at this
            omega
        obtain ⟨p, q, hpq, hp, hq⟩ := hp
        obtain ⟨oa, ea⟩ := readB_some hp
        obtain ⟨ob, eb⟩ := readB_some hq
        have j := parts_join (t := (t.drop 3).dropLast) (by rw [hpq]; simp)
        rw [hpq] at j
        have j : p ++ 32 :: q = (t.drop 3).dropLast := j
        subst h2
        refine ⟨⟨hs, oa, ob⟩, ?_⟩
        show t = 40 :: t.getD 1 0 :: 32 :: (shw a ++ 32 :: (shw b ++ [41]))
        rw [← ea, ← eb]
        rw [← j] at sh
        rw [show p ++ 32 :: (q ++ [41]) = p ++ 32 :: q ++ [41] from by simp]
        exact sh
      · cases h
    · obtain ⟨_, a, b⟩ := leaf_lf h
      exact ⟨a, b.symm⟩
theorem readB_iff {n : Nat} {t : List Nat} (h : cnt t < n) {T : PT} : readB n t = some T ↔ T.ok ∧ t = shw T :=
  ⟨readB_some, fun ⟨a, b⟩ => by rw [b] at h ⊢; exact readB_shw a h⟩
theorem cnt_part {ps : List (List Nat)} : ∀ {p : List Nat}, p ∈ ps → cnt p ≤ cnt (jn ps) := by
  induction ps with
  | nil => intro p h; exact absurd h List.not_mem_nil
  | cons w r ih =>
    intro p h
    cases r with
    | nil => rw [List.mem_singleton.mp h]; exact Nat.le_refl _
    | cons v r =>
      have e : cnt (jn (w :: v :: r)) = cnt w + cnt (jn (v :: r)) := by
        unfold cnt
        show List.count 40 (w ++ 32 :: jn (v :: r)) = _
        rw [List.count_append, List.count_cons]
        simp
      rw [e]
      rcases List.mem_cons.mp h with q | q
      · rw [q]; omega
      · have := ih q; omega
theorem cnt_inner {t : List Nat} (h : t.head? = some 40) (o : opn t) : cnt ((t.drop 3).dropLast) + 1 ≤ cnt t := by
  obtain ⟨sh, _⟩ := shape h o
  have := congrArg cnt sh
  rw [this]
  unfold cnt
  rw [List.count_cons, List.count_cons, List.count_cons, List.count_append]
  have h40 : ((40 : Nat) == 40) = true := rfl
  rw [h40, if_pos rfl]
  omega
theorem cnt_parts {t p : List Nat} (h : p ∈ parts t) : cnt p ≤ cnt t := by
  have := parts_join (t := t) (fun z => by rw [z] at h; exact absurd h List.not_mem_nil)
  have q := cnt_part h
  rw [this] at q
  exact q
theorem cnt_len : ∀ {t : PT}, t.ok → 6 * cnt (shw t) + 1 ≤ (shw t).length
  | .num n, h => by
    have : cnt (shw (.num n)) = 0 := List.count_eq_zero.mpr fun z => ((lf_num h).2 _ z).2.1 rfl
    rw [this]; exact shw_pos h
  | .nam x, h => by
    have : cnt (shw (.nam x)) = 0 := List.count_eq_zero.mpr fun z => ((lf_nam h).2 _ z).2.1 rfl
    rw [this]; exact shw_pos h
  | .op s a b, h => by
    have ha := cnt_len h.2.1
    have hb := cnt_len h.2.2
    have e : cnt (shw (.op s a b)) = cnt (shw a) + cnt (shw b) + 1 := by
      unfold cnt
      show List.count 40 (40 :: s :: 32 :: (shw a ++ 32 :: (shw b ++ [41]))) = _
      rw [List.count_cons, List.count_cons, List.count_cons, List.count_append, List.count_cons, List.count_append]
      have : (s == 40) = false := beq_eq_false_iff_ne.mpr (sg_plain h.1).1
      simp [this]
    rw [e]
    show _ ≤ (40 :: s :: 32 :: (shw a ++ 32 :: (shw b ++ [41]))).length
    simp
    omega
end Mine
namespace Mine
open PySem L2
/-! ### texts and their signs -/
abbrev sL (z : Str) : List Nat := z.cps.toList
def mkS (l : List Nat) : Str := ⟨l.toArray⟩
theorem sL_mk (l : List Nat) : sL (mkS l) = l := rfl
theorem mk_sL (z : Str) : mkS (sL z) = z := by cases z; rfl
theorem sL_inj {x y : Str} (h : sL x = sL y) : x = y := by rw [← mk_sL x, ← mk_sL y, h]
theorem sL_app (x y : Str) : sL (x ++ y) = sL x ++ sL y := by
  show (x.cps ++ y.cps).toList = _
  rw [Array.toList_append]
theorem sL_len (z : Str) : (sL z).length = z.length := rfl
theorem big4 {n : Nat} (h : n ≤ 9000000) : n < sizeLine := by rw [sizeLine_eq]; omega
/-! a text's slice -/
theorem idx_cut {α : Type} (l : List α) (a : Nat) : ∀ m : Nat, a + m ≤ l.length → (List.range m).filterMap (fun k => l[a + k]?) = (l.drop a).take m
  | 0, _ => by simp
  | m + 1, h => by
    rw [List.range_succ, List.filterMap_append, idx_cut l a m (by omega)]
    have hm : a + m < l.length := by omega
    rw [List.filterMap_cons_some (b := l[a + m]) (by rw [List.getElem?_eq_getElem hm]), List.filterMap_nil, List.take_succ, List.getElem?_drop, List.getElem?_eq_getElem hm]
    rfl
theorem sIx_le (n d : Nat) (v : Option Int) (hd : d ≤ n) : HT.sIx n d v ≤ n := by
  cases v with
  | none => exact hd
  | some i =>
    show (if i < 0 then (i + n).toNat else min i.toNat n) ≤ n
    split <;> omega
def clipI (n : Nat) (d : Int) (v : Option Int) : Int := match v with
  | none => d
  | some i => max 0 (min (if i < 0 then i + (n : Int) else i) (n : Int))
theorem clip_eq (n d : Nat) (v : Option Int) : clipI n (d : Int) v = (HT.sIx n d v : Int) := by
  cases v with
  | none => rfl
  | some i =>
    show max 0 (min (if i < 0 then i + (n : Int) else i) (n : Int)) = ((if i < 0 then (i + n).toNat else min i.toNat n : Nat) : Int)
    split <;> omega
theorem range_eq (a b : Nat) : sliceRange (a : Int) (b : Int) 1 = (List.range (b - a)).map fun k => a + k := by
  unfold sliceRange
  have ec : (if (1 : Int) > 0 then (if (a : Int) < b then ((b : Int) - a + 1 - 1) / 1 else 0) else (if (a : Int) > b then ((a : Int) - b - 1 - 1) / (-1) else 0)).toNat = b - a := by
    rw [if_pos (by decide)]
    split
    · rw [Int.ediv_one]; omega
    · show 0 = b - a; omega
  dsimp only
  rw [ec]
  refine List.map_congr_left fun k _ => ?_
  omega
theorem slice_idx (n : Nat) (lo hi : Option Int) : Builtin.Str.strSliceIndices lo hi 1 n = (List.range (HT.sIx n n hi - HT.sIx n 0 lo)).map fun k => HT.sIx n 0 lo + k := by
  have e : Builtin.Str.strSliceIndices lo hi 1 n = sliceRange (clipI n ((0 : Nat) : Int) lo) (clipI n (n : Int) hi) 1 := by
    cases lo <;> cases hi <;> rfl
  rw [e, clip_eq, clip_eq, range_eq]
theorem slice_eq (z : Str) (lo hi : Option Int) : sL (Txt.slice z lo hi) = ((sL z).drop (HT.sIx z.length 0 lo)).take (HT.sIx z.length z.length hi - HT.sIx z.length 0 lo) := by
  have la := sIx_le z.length 0 lo (Nat.zero_le _)
  have lb := sIx_le z.length z.length hi (Nat.le_refl _)
  unfold Txt.slice
  rw [slice_idx]
  generalize HT.sIx z.length 0 lo = a at la ⊢
  generalize HT.sIx z.length z.length hi = b at lb ⊢
  rw [List.length_map, List.length_range]
  split
  · rename_i h
    have h : b - a = z.length := by simpa using h
    have : a = 0 ∨ z.length = 0 := by omega
    rcases this with rfl | q
    · rw [List.drop_zero, List.take_of_length_le (by rw [sL_len]; omega)]
    · have e : sL z = [] := List.length_eq_zero_iff.mp q
      rw [e]; simp
  · show (List.filterMap (fun x => z.cps[x]?) ((List.range (b - a)).map fun k => a + k)).toArray.toList = _
    rw [List.filterMap_map]
    have : (fun x => z.cps[x]?) ∘ (fun k => a + k) = fun k => (sL z)[a + k]? := by
      funext k
      show z.cps[a + k]? = z.cps.toList[a + k]?
      rw [Array.getElem?_toList]
    rw [this]
    by_cases q : a ≤ b
    · exact idx_cut (sL z) a (b - a) (by rw [sL_len]; omega)
    · have : b - a = 0 := by omega
      rw [this]; simp
theorem sIx_pos (n d k : Nat) : HT.sIx n d (some (k : Int)) = min k n := HT.sIx_nat n d k
theorem slice_to (z : Str) (k : Nat) : sL (Txt.slice z none (some (k : Int))) = (sL z).take k := by
  rw [slice_eq, sIx_pos]
  show ((sL z).drop 0).take (min k z.length - 0) = _
  rw [List.drop_zero, Nat.sub_zero]
  by_cases h : k ≤ z.length
  · rw [Nat.min_eq_left h]
  · rw [Nat.min_eq_right (by omega), List.take_of_length_le (by rw [sL_len]; exact Nat.le_refl _), List.take_of_length_le (by rw [sL_len]; omega)]
theorem slice_from (z : Str) (k : Nat) : sL (Txt.slice z (some (k : Int)) none) = (sL z).drop k := by
  rw [slice_eq, sIx_pos]
  show ((sL z).drop (min k z.length)).take (z.length - min k z.length) = _
  by_cases h : k ≤ z.length
  · rw [Nat.min_eq_left h, List.take_of_length_le (by rw [List.length_drop, sL_len]; exact Nat.le_refl _)]
  · rw [Nat.min_eq_right (by omega), Nat.sub_self, List.take_zero, List.drop_of_length_le (by rw [sL_len]; omega)]
theorem slice_in (z : Str) (h : 7 ≤ z.length) : sL (Txt.slice z (some 3) (some (-1))) = ((sL z).drop 3).dropLast := by
  rw [slice_eq, show (3 : Int) = ((3 : Nat) : Int) from rfl, sIx_pos]
  have : HT.sIx z.length z.length (some (-1)) = z.length - 1 := by
    show (if (-1 : Int) < 0 then ((-1 : Int) + z.length).toNat else min (-1 : Int).toNat z.length) = z.length - 1
    rw [if_pos (by decide)]; omega
  rw [this, Nat.min_eq_left (by omega), List.dropLast_eq_take, List.length_drop, sL_len]
  rw [show z.length - 1 - 3 = z.length - 3 - 1 from by omega]
/-! its words -/
theorem join_jn : ∀ ps : List Str, sL (Str.join ⟨#[32]⟩ ps) = jn (ps.map sL)
  | [] => rfl
  | [x] => rfl
  | x :: y :: r => by
    show sL (x ++ ⟨#[32]⟩ ++ Str.join ⟨#[32]⟩ (y :: r)) = sL x ++ 32 :: jn ((y :: r).map sL)
    rw [sL_app, sL_app, join_jn (y :: r), List.append_assoc]
    rfl
theorem split_ne (x : Str) : Txt.split x ⟨#[32]⟩ ≠ [] := by
  unfold Txt.split
  split
  · simp
  · split
    · simp
    · rw [StrLaws.partsBetween_eq]
      obtain ⟨p, r, e⟩ := StrLaws.partsFrom_ne x (⟨#[32]⟩ : Str).length 0 (Builtin.Str.occurrences x ⟨#[32]⟩ 0 x.length (x.length + 1))
      rw [e]; simp
theorem split_words (x : Str) : (Txt.split x ⟨#[32]⟩).map sL ≠ [] ∧ (∀ w ∈ (Txt.split x ⟨#[32]⟩).map sL, 32 ∉ w) ∧ jn ((Txt.split x ⟨#[32]⟩).map sL) = sL x := by
  refine ⟨fun z => split_ne x (List.map_eq_nil_iff.mp z), fun w hw => ?_, ?_⟩
  · obtain ⟨p, hp, rfl⟩ := List.mem_map.mp hw
    exact StrLaws.split_free x 32 p hp
  · rw [← join_jn, StrLaws.join_split]
theorem has_41 (c : Nat) : (⟨#[41]⟩ : Str).cps.contains c = decide (c = 41) := by
  show (#[41] : Array Nat).contains c = _
  simp
theorem rstrip_rs (z : Str) : sL (Txt.rstripChars z ⟨#[41]⟩) = rs (sL z) := by
  have g : (⟨#[41]⟩ : Str).cps.contains = fun c => decide (c = 41) := funext has_41
  unfold Txt.rstripChars Txt.stripBy stripSame stripped stripHi stripLo
  rw [g]
  simp only [if_true, Bool.false_eq_true, if_false, List.drop_zero]
  have tw : (List.takeWhile (fun c => decide (c = 41)) (sL z).reverse).length + (List.dropWhile (fun c => decide (c = 41)) (sL z).reverse).length = z.length := by
    have := congrArg List.length (List.takeWhile_append_dropWhile (p := fun c => decide (c = 41)) (l := (sL z).reverse))
    rw [List.length_append, List.length_reverse, sL_len] at this
    exact this
  have key : rs (sL z) = (sL z).take (z.length - (List.takeWhile (fun c => decide (c = 41)) (sL z).reverse).length) := by
    have r := rs_split (sL z)
    have ln : (rs (sL z)).length = z.length - (List.takeWhile (fun c => decide (c = 41)) (sL z).reverse).length := by
      unfold rs; rw [List.length_reverse]; omega
    rw [← ln]
    generalize rs (sL z) = q at r ⊢
    rw [r, List.take_left]
  split
  · rename_i h
    have h : z.length - (List.takeWhile (fun c => decide (c = 41)) (sL z).reverse).length = z.length := by simpa using h
    rw [key, h, List.take_of_length_le (by rw [sL_len]; exact Nat.le_refl _)]
  · rw [key]
    show (z.cps.extract 0 _).toList = _
    rw [Array.toList_extract]
    simp [List.extract]
theorem starts_40 (z : Str) : Txt.startswith z ⟨#[40]⟩ = decide ((sL z).head? = some 40) := by
  unfold Txt.startswith Builtin.Str.subAt
  obtain ⟨⟨l⟩⟩ := z
  cases l with
  | nil => rfl
  | cons y r =>
    show (decide (0 + 1 ≤ (y :: r).length) && ((⟨y :: r⟩ : Array Nat).extract 0 (0 + 1) == #[40])) = decide ((y :: r).head? = some 40)
    rw [decide_eq_true (by simp), Bool.true_and]
    have : (⟨y :: r⟩ : Array Nat).extract 0 (0 + 1) = #[y] := by
      apply Array.toList_inj.mp
      rw [Array.toList_extract]
      rfl
    rw [this]
    by_cases c : y = 40
    · rw [c]; rfl
    · rw [decide_eq_false (show ¬ (y :: r).head? = some 40 from fun z => c (Option.some.inj z))]
      exact beq_eq_false_iff_ne.mpr fun z => c (by simpa using z)
theorem in_one (x : Str) (c : Nat) : (!(Builtin.Str.occurrences x ⟨#[c]⟩ 0 x.length 1).isEmpty) = decide (c ∈ sL x) := StrLaws.found_one x c
/-! how many opening brackets -/
theorem jn_cnt {c : Nat} : ∀ {ps : List Str}, ps ≠ [] → (∀ p ∈ ps, c ∉ sL p) → (sL (Str.join ⟨#[c]⟩ ps)).count c + 1 = ps.length
  | [], h, _ => absurd rfl h
  | [x], _, h => by
    show (sL x).count c + 1 = 1
    rw [List.count_eq_zero.mpr (h x List.mem_cons_self)]
  | x :: y :: r, _, h => by
    have ih := jn_cnt (ps := y :: r) (by simp) fun p hp => h p (List.mem_cons_of_mem _ hp)
    show (sL (x ++ ⟨#[c]⟩ ++ Str.join ⟨#[c]⟩ (y :: r))).count c + 1 = _
    rw [sL_app, sL_app, List.count_append, List.count_append, List.count_eq_zero.mpr (h x List.mem_cons_self), List.length_cons, ← ih]
    show 0 + List.count c [c] + _ + 1 = _
    rw [List.count_singleton]
    simp
    omega
theorem parts_len (x : Str) (w : Nat) : ∀ (cuts : List Nat) (a : Nat), (StrLaws.partsFrom x w a cuts).length = cuts.length + 1
  | [], a => rfl
  | c :: r, a => by
    show (StrLaws.partsFrom x w a (c :: r)).length = _
    unfold StrLaws.partsFrom
    rw [List.length_cons, parts_len x w r]
    rfl
theorem count_ge (z : Str) (c : Nat) (hk : Builtin.Str.strKind (⟨#[c]⟩ : Str) ≤ Builtin.Str.strKind z) : ((sL z).count c : Int) ≤ Txt.count z ⟨#[c]⟩ := by
  have j := StrLaws.join_split z ⟨#[c]⟩
  have f := StrLaws.split_free z c
  unfold Txt.count
  by_cases h0 : z.length < 1
  · have : sL z = [] := List.length_eq_zero_iff.mp (by rw [sL_len]; omega)
    rw [this]
    simp
  · have ne : Txt.split z ⟨#[c]⟩ ≠ [] := by
      unfold Txt.split
      split
      · simp
      · split
        · simp
        · rw [StrLaws.partsBetween_eq]
          obtain ⟨p, r, e⟩ := StrLaws.partsFrom_ne z (⟨#[c]⟩ : Str).length 0 (Builtin.Str.occurrences z ⟨#[c]⟩ 0 z.length (z.length + 1))
          rw [e]; simp
    have k := jn_cnt ne f
    rw [j] at k
    have ln : (Txt.split z ⟨#[c]⟩).length = (Builtin.Str.occurrences z ⟨#[c]⟩ 0 z.length (z.length + 1)).length + 1 := by
      unfold Txt.split
      rw [if_neg (by
        rw [Bool.or_eq_true, decide_eq_true_eq, decide_eq_true_eq]
        rintro (q | q)
        · have q : z.length < 1 := q
          omega
        · omega)]
      split
      · rename_i e
        rw [List.isEmpty_iff.mp e]
        rfl
      · rw [StrLaws.partsBetween_eq, parts_len]
    omega
end Mine
namespace Mine
open PySem L2
/-! ### terms on the heap -/
def PH (H : Hp) : PT → Addr → Prop
  | .num n, a => H a = some (.tup [.str "num", .int (n : Int)])
  | .nam x, a => H a = some (.tup [.str "name", .str (mkS x)])
  | .op s l r, a => ∃ b c, H a = some (.tup [.str "op", .str ⟨#[s]⟩, .ref b, .ref c]) ∧ PH H l b ∧ PH H r c
theorem PH.ts {H H' : Hp} (t : TS H H') : ∀ {T : PT} {a : Addr}, PH H T a → PH H' T a
  | .num _, _, h => t _ _ h
  | .nam _, _, h => t _ _ h
  | .op _ _ _, _, ⟨b, c, h1, h2, h3⟩ => ⟨b, c, t _ _ h1, h2.ts t, h3.ts t⟩
def PV (H : Hp) (v : V) (t : PT) : Prop := ∃ p, v = .ref p ∧ PH H t p
theorem PV.ts {H H' : Hp} (t : TS H H') {v : V} {T : PT} (h : PV H v T) : PV H' v T := let ⟨p, e, k⟩ := h; ⟨p, e, k.ts t⟩
def Off (S : List Addr) (H H' : Hp) : Prop := ∀ b o, H b = some o → b ∉ S → H' b = some o
theorem Off.refl {S : List Addr} (H : Hp) : Off S H H := fun _ _ e _ => e
theorem Off.trans {S : List Addr} {H H1 H2 : Hp} (a : Off S H H1) (b : Off S H1 H2) : Off S H H2 := fun c o e h => b c o (a c o e h) h
theorem Off.of {S : List Addr} {H H' : Hp} (s : Same H H') : Off S H H' := fun c o e _ => s c o e
theorem Off.mono {S S' : List Addr} {H H' : Hp} (a : Off S H H') (h : ∀ b ∈ S, b ∈ S') : Off S' H H' := fun c o e n => a c o e fun m => n (h c m)
theorem Off.upd1 {S : List Addr} {H : Hp} {a : Addr} {o : HO} (h : a ∈ S) : Off S H (upd H a o) := fun c u e n => by rw [upd_ne (fun z => n (by rw [z]; exact h))]; exact e
/-! ### the levels -/
def LvU (H : Hp) (v : V) (e : Nat × List PT) : Prop := ∃ x vs, v = .ref x ∧ H x = some (.lst (.str ⟨#[e.1]⟩ :: vs)) ∧ Two (PV H) vs e.2
structure Lv (H : Hp) (lv a : Addr) (as : List Addr) (st : Sta) : Prop where
  top : H lv = some (.lst ((a :: as.reverse).map V.ref))
  b : ∃ vs, H a = some (.lst vs) ∧ Two (PV H) vs st.base
  u : Two (LvU H) (as.map V.ref) st.ups
  nd : (lv :: a :: as).Nodup
theorem LvU.keep {H H' : Hp} (t : TS H H') {v : V} {e : Nat × List PT} (k : ∀ x, v = .ref x → ∀ vs, H x = some (.lst vs) → H' x = some (.lst vs)) (h : LvU H v e) : LvU H' v e :=
  let ⟨x, vs, e1, e2, e3⟩ := h; ⟨x, vs, e1, k x e1 _ e2, e3.mono fun _ _ z => z.ts t⟩
theorem two_keep {H H' : Hp} (t : TS H H') : ∀ {as : List Addr} {us : List (Nat × List PT)}, (∀ x ∈ as, ∀ vs, H x = some (.lst vs) → H' x = some (.lst vs)) → Two (LvU H) (as.map V.ref) us → Two (LvU H') (as.map V.ref) us
  | [], [], _, _ => trivial
  | x :: as, u :: us, k, ⟨h1, h2⟩ => ⟨h1.keep t fun y e vs q => by cases e; exact k x List.mem_cons_self vs q, two_keep t (fun y hy => k y (List.mem_cons_of_mem _ hy)) h2⟩
  | [], _ :: _, _, z => z.elim
  | _ :: _, [], _, z => z.elim
theorem Lv.same {H H' : Hp} {lv a : Addr} {as : List Addr} {st : Sta} (h : Lv H lv a as st) (s : Same H H') : Lv H' lv a as st :=
  ⟨s _ _ h.top, let ⟨vs, e1, e2⟩ := h.b; ⟨vs, s _ _ e1, e2.mono fun _ _ z => z.ts (.of s)⟩, two_keep (.of s) (fun x _ vs q => s _ _ q) h.u, h.nd⟩
def tp (a : Addr) (as : List Addr) : Addr := as.headD a
theorem tp_mem (a : Addr) (as : List Addr) : tp a as ∈ a :: as := by cases as <;> simp [tp]
theorem last_at (vs : List V) (v : V) : atI (vs ++ [v]) (-1) = some v := atI_last vs v
theorem top_at (a : Addr) (as : List Addr) : atI ((a :: as.reverse).map V.ref) (-1) = some (.ref (tp a as)) := by
  cases as with
  | nil => exact last_at [] _
  | cons x r =>
    rw [List.reverse_cons, show (a :: (r.reverse ++ [x])).map V.ref = (a :: r.reverse).map V.ref ++ [V.ref x] from by simp]
    exact last_at _ _
theorem Lv.topl {H : Hp} {lv a : Addr} {as : List Addr} {st : Sta} (h : Lv H lv a as st) : ∃ vs, H (tp a as) = some (.lst vs) := by
  cases as with
  | nil => obtain ⟨vs, e, _⟩ := h.b; exact ⟨vs, e⟩
  | cons x r =>
    obtain ⟨b, u⟩ := st
    cases u with
    | nil => exact h.u.elim
    | cons e us => obtain ⟨⟨y, vs, e1, e2, _⟩, _⟩ := h.u; cases e1; exact ⟨_, e2⟩
theorem Lv.push {H : Hp} {lv a : Addr} {as : List Addr} {st : Sta} {t : PT} {p : Addr} {vs : List V} (h : Lv H lv a as st) (k : PH H t p) (e : H (tp a as) = some (.lst vs)) : Lv (upd H (tp a as) (.lst (vs ++ [.ref p]))) lv a as (st.push t) := by
  have nd := List.nodup_cons.mp h.nd
  have ndl : lv ≠ tp a as := fun z => nd.1 (by rw [z]; exact tp_mem a as)
  have ts := TS.lst (ys := vs ++ [.ref p]) e
  have k' := k.ts ts
  obtain ⟨b, u⟩ := st
  cases as with
  | nil =>
    cases u with
    | cons _ _ => exact h.u.elim
    | nil =>
      obtain ⟨ws, w1, w2⟩ := h.b
      have e : H a = some (.lst vs) := e
      rw [e] at w1
      cases w1
      refine ⟨by rw [upd_ne ndl]; exact h.top, ⟨_, upd_same, Two.append (w2.mono fun _ _ z => z.ts ts) ⟨⟨p, rfl, k'⟩, trivial⟩⟩, trivial, h.nd⟩
  | cons x r =>
    cases u with
    | nil => exact h.u.elim
    | cons el us =>
      obtain ⟨s, l⟩ := el
      obtain ⟨⟨y, ws, w1, w2, w3⟩, w4⟩ := h.u
      cases w1
      have e : H x = some (.lst vs) := e
      rw [e] at w2
      cases w2
      have nd2 := List.nodup_cons.mp nd.2
      have nd3 := List.nodup_cons.mp nd2.2
      refine ⟨by rw [upd_ne ndl]; exact h.top, ?_, ⟨⟨x, ws ++ [.ref p], rfl, by rw [show tp a (x :: r) = x from rfl, upd_same]; rfl, Two.append (w3.mono fun _ _ z => z.ts ts) ⟨⟨p, rfl, k'⟩, trivial⟩⟩, two_keep ts (fun z hz vs q => ?_) w4⟩, h.nd⟩
      · obtain ⟨us, u1, u2⟩ := h.b
        exact ⟨us, by rw [upd_ne (fun z => nd2.1 (by rw [z]; exact List.mem_cons_self))]; exact u1, u2.mono fun _ _ z => z.ts ts⟩
      · rw [upd_ne (fun q => nd3.1 (by rw [← show z = x from q]; exact hz))]; exact q
theorem Lv.pop {H : Hp} {lv a x : Addr} {r : List Addr} {b : List PT} {el : Nat × List PT} {us : List (Nat × List PT)} (h : Lv H lv a (x :: r) ⟨b, el :: us⟩) : Lv (upd H lv (.lst ((a :: r.reverse).map V.ref))) lv a r ⟨b, us⟩ := by
  have nd := List.nodup_cons.mp h.nd
  have nd2 := List.nodup_cons.mp nd.2
  have ts := TS.lst (ys := (a :: r.reverse).map V.ref) h.top
  have ne : ∀ y ∈ a :: x :: r, y ≠ lv := fun y hy z => nd.1 (by rw [← z]; exact hy)
  refine ⟨upd_same, ?_, two_keep ts (fun z hz vs q => ?_) h.u.2, ?_⟩
  · obtain ⟨ws, u1, u2⟩ := h.b
    exact ⟨ws, by rw [upd_ne (ne a List.mem_cons_self)]; exact u1, u2.mono fun _ _ z => z.ts ts⟩
  · rw [upd_ne (ne z (List.mem_cons_of_mem _ (List.mem_cons_of_mem _ hz)))]; exact q
  · refine List.nodup_cons.mpr ⟨fun z => nd.1 ?_, List.nodup_cons.mpr ⟨fun z => nd2.1 (List.mem_cons_of_mem _ z), (List.nodup_cons.mp nd2.2).2⟩⟩
    rcases List.mem_cons.mp z with q | q
    · rw [q]; exact List.mem_cons_self
    · exact List.mem_cons_of_mem _ (List.mem_cons_of_mem _ q)
theorem Lv.open {H : Hp} {lv a x : Addr} {as : List Addr} {st : Sta} {s : Nat} (h : Lv H lv a as st) (hx : H x = none) : Lv (upd (upd H x (.lst [.str ⟨#[s]⟩])) lv (.lst ((a :: (x :: as).reverse).map V.ref))) lv a (x :: as) ⟨st.base, (s, []) :: st.ups⟩ := by
  have h1 := h.same (same_new hx (.lst [.str ⟨#[s]⟩]))
  have x1 : upd H x (.lst [.str ⟨#[s]⟩]) x = some (.lst [.str ⟨#[s]⟩]) := upd_same
  have nd := List.nodup_cons.mp h.nd
  have nx : x ∉ lv :: a :: as := fun z => by
    have : ∃ o, H x = some o := by
      rcases List.mem_cons.mp z with q | q
      · rw [q]; exact ⟨_, h.top⟩
      · rcases List.mem_cons.mp q with q | q
        · obtain ⟨vs, e, _⟩ := h.b; rw [q]; exact ⟨_, e⟩
        · have key : ∀ {as : List Addr} {us : List (Nat × List PT)}, Two (LvU H) (as.map V.ref) us → x ∈ as → ∃ o, H x = some o := by
            intro as
            induction as with
            | nil => intro us _ m; exact absurd m List.not_mem_nil
            | cons y r ih =>
              intro us t m
              cases us with
              | nil => exact t.elim
              | cons u us =>
                obtain ⟨⟨w, vs, e1, e2, _⟩, t2⟩ := t
                rcases List.mem_cons.mp m with q | q
                · cases e1; rw [q]; exact ⟨_, e2⟩
                · exact ih t2 q
          exact key h.u q
    obtain ⟨o, e⟩ := this
    rw [hx] at e; cases e
  generalize upd H x (.lst [.str ⟨#[s]⟩]) = G at h1 x1 ⊢
  have ts := TS.lst (ys := (a :: (x :: as).reverse).map V.ref) h1.top
  have ne : ∀ y ∈ a :: as, y ≠ lv := fun y hy z => nd.1 (by rw [← z]; exact hy)
  refine ⟨upd_same, ?_, ⟨⟨x, [], rfl, by rw [upd_ne (fun z => nx (by rw [z]; exact List.mem_cons_self))]; exact x1, trivial⟩, two_keep ts (fun z hz vs q => ?_) h1.u⟩, ?_⟩
  · obtain ⟨ws, u1, u2⟩ := h1.b
    exact ⟨ws, by rw [upd_ne (ne a List.mem_cons_self)]; exact u1, u2.mono fun _ _ z => z.ts ts⟩
  · rw [upd_ne (ne z (List.mem_cons_of_mem _ hz))]; exact q
  · refine List.nodup_cons.mpr ⟨fun z => ?_, List.nodup_cons.mpr ⟨fun z => ?_, List.nodup_cons.mpr ⟨fun z => nx (List.mem_cons_of_mem _ (List.mem_cons_of_mem _ z)), (List.nodup_cons.mp nd.2).2⟩⟩⟩
    · rcases List.mem_cons.mp z with q | q
      · exact nd.1 (by rw [q]; exact List.mem_cons_self)
      · rcases List.mem_cons.mp q with q | q
        · exact nx (by rw [← q]; exact List.mem_cons_self)
        · exact nd.1 (List.mem_cons_of_mem _ q)
    · rcases List.mem_cons.mp z with q | q
      · exact nx (by rw [← q]; exact List.mem_cons_of_mem _ List.mem_cons_self)
      · exact (List.nodup_cons.mp nd.2).1 q
/-! how much is in a state -/
def Sta.sz (st : Sta) : Nat := st.base.length + (st.ups.map fun e => 1 + e.2.length).sum
theorem push_sz (t : PT) (st : Sta) : (st.push t).sz = st.sz + 1 := by
  obtain ⟨b, u⟩ := st
  cases u with
  | nil => simp [Sta.push, Sta.sz]
  | cons e r => obtain ⟨s, l⟩ := e; simp [Sta.push, Sta.sz]; omega
theorem close_sz {st st' : Sta} (h : st.close = some st') : st'.sz ≤ st.sz := by
  obtain ⟨b, u⟩ := st
  match u, h with
  | (s, [x, y]) :: r, h =>
    cases h
    rw [push_sz]
    simp [Sta.sz]
    omega
theorem closeN_sz : ∀ {n : Nat} {st st' : Sta}, Sta.closeN n st = some st' → st'.sz ≤ st.sz
  | 0, st, st', h => by cases h; exact Nat.le_refl _
  | n + 1, st, st', h => by
    obtain ⟨s1, h1, h2⟩ := Option.bind_eq_some_iff.mp h
    have := close_sz h1
    have := closeN_sz h2
    omega
theorem wordA_sz {w : List Nat} {st st' : Sta} (h : wordA w st = some st') : st'.sz ≤ st.sz + 1 := by
  unfold wordA at h
  split at h
  · split at h
    · split at h
      · cases h; simp [Sta.sz]; omega
      · cases h
    · cases h
  · obtain ⟨t, _, h2⟩ := Option.bind_eq_some_iff.mp h
    have := closeN_sz h2
    rw [push_sz] at this
    exact this
theorem Lv.len {H : Hp} {lv a : Addr} {as : List Addr} {st : Sta} {vs : List V} (h : Lv H lv a as st) (e : H (tp a as) = some (.lst vs)) : vs.length ≤ st.sz := by
  obtain ⟨b, u⟩ := st
  cases as with
  | nil =>
    obtain ⟨ws, w1, w2⟩ := h.b
    have e : H a = some (.lst vs) := e
    rw [e] at w1
    cases w1
    rw [w2.length]
    simp [Sta.sz]
  | cons x r =>
    cases u with
    | nil => exact h.u.elim
    | cons el us =>
      obtain ⟨⟨y, ws, w1, w2, w3⟩, _⟩ := h.u
      cases w1
      have e : H x = some (.lst vs) := e
      rw [e] at w2
      cases w2
      rw [List.length_cons, w3.length]
      simp [Sta.sz]
      omega
theorem Lv.alen {H : Hp} {lv a : Addr} {as : List Addr} {st : Sta} (h : Lv H lv a as st) : as.length = st.ups.length ∧ as.length ≤ st.sz := by
  have e := h.u.length
  rw [List.length_map] at e
  refine ⟨e, ?_⟩
  rw [e]
  have : ∀ l : List (Nat × List PT), l.length ≤ (l.map fun e => 1 + e.2.length).sum := by
    intro l
    induction l with
    | nil => exact Nat.le_refl _
    | cons x r ih => simp; omega
  have := this st.ups
  unfold Sta.sz
  omega
/-! ### promises -/
def spIsN : Sp := fun vs H Q _ => ∃ z : Str, vs = [.str z] ∧ z.length ≤ 1000000 ∧ ∀ H', Same H H' → Q (.bl (decide (nmOk (sL z)))) H'
def oV (o : Option Nat) : V := match o with
  | none => .non
  | some n => .int (n : Int)
def spRdN : Sp := fun vs H Q _ => ∃ z : Str, vs = [.str z, .int 0, .int 999] ∧ z.length ≤ 1000000 ∧ ∀ H', Same H H' → Q (oV (numOf (sL z))) H'
def spLeaf : Sp := fun vs H Q _ => ∃ z : Str, vs = [.str z] ∧ z.length ≤ 1000000 ∧ (leaf (sL z) = none → ∀ H', Same H H' → Q .non H') ∧ ∀ T p H', leaf (sL z) = some T → Same H H' → PH H' T p → Q (.ref p) H'
def spClose : Sp := fun vs H Q _ => ∃ (lv a : Addr) (as : List Addr) (st : Sta), vs = [.ref lv] ∧ Lv H lv a as st ∧ st.sz ≤ 2000000 ∧ (st.close = none → Q (.bl false) H) ∧
  ∀ as' st' H', st.close = some st' → Lv H' lv a as' st' → Off (lv :: a :: as) H H' → (∀ b ∈ as', b ∈ as) → Q (.bl true) H'
def spTake : Sp := fun vs H Q _ => ∃ (lv a : Addr) (as : List Addr) (st : Sta) (z : Str), vs = [.ref lv, .str z] ∧ Lv H lv a as st ∧ st.sz ≤ 1000000 ∧ z.length ≤ 1000000 ∧
  (∀ H', ((leaf (rs (sL z))).bind fun t => Sta.closeN ((sL z).length - (rs (sL z)).length) (st.push t)) = none → Off (lv :: a :: as) H H' → Q (.bl false) H') ∧
  ∀ as' st' H', ((leaf (rs (sL z))).bind fun t => Sta.closeN ((sL z).length - (rs (sL z)).length) (st.push t)) = some st' → Lv H' lv a as' st' → Off (lv :: a :: as) H H' → (∀ b ∈ as', b ∈ as) → Q (.bl true) H'
def spTermOf : Sp := fun vs H Q _ => ∃ (wl : Addr) (ws : List Str), vs = [.ref wl] ∧ H wl = some (.lst (ws.map V.str)) ∧ ws.length ≤ 500000 ∧ (∀ w ∈ ws, w.length ≤ 1000000) ∧
  (readA (ws.map sL) = none → ∀ H', Same H H' → Q .non H') ∧ ∀ T p H', readA (ws.map sL) = some T → Same H H' → PH H' T p → Q (.ref p) H'
def isT (z : Str) (T : PT) : Prop := T.ok ∧ sL z = shw T
def spRT (C : Addr) : Sp := fun vs H Q E => ∃ z : Str, vs = [.str z] ∧ z.length ≤ 400000 ∧ (∀ T p H', isT z T → Same H H' → PH H' T p → Q (.ref p) H') ∧
  ((∀ T, ¬ isT z T) → ∀ dx H', Same H H' → H' dx = some (XM dx [("row", .int 0)]) → E (.ref C) (some dx) H')
def spInit (C : Addr) : Sp := fun vs H Q _ => ∃ (x : Addr) (y : V), vs = [.ref x, y] ∧ H x = some (XN1 x C) ∧ ∀ dx, H dx = none → Q .non (upd (upd (upd H dx (XM dx [])) x (XD1 x C dx)) dx (XM dx [("row", y)]))
def spShow : Sp := fun vs H Q _ => ∃ (p : Addr) (T : PT), vs = [.ref p] ∧ PH H T p ∧ T.ok ∧ (shw T).length ≤ 400000 ∧ ∀ H', Same H H' → Q (.str (mkS (shw T))) H'
end Mine
namespace Mine
open PySem L2
theorem inV_strs (w : Str) (xs : List Str) : inV (.str w) (xs.map V.str) = decide (w ∈ xs) := by
  unfold inV
  rw [List.any_map]
  induction xs with
  | nil => rfl
  | cons x r ih =>
    rw [List.any_cons, ih]
    have e : (eqV (V.str x) (V.str w)) = decide (x = w) := rfl
    show (eqV (V.str x) (V.str w) || _) = _
    rw [e]
    by_cases c : x = w
    · simp [c]
    · have c2 : ¬ w = x := fun z => c z.symm
      simp [c, c2]
theorem notin_strs (x : Str) (ss : List Str) : (!inV (V.str x) (ss.map V.str)) = !decide (x ∈ ss) := by rw [inV_strs]
theorem flat_texts (xs : List Str) : (xs.map V.str).all flatV = true := flat_strs xs
theorem strs_at {xs : List Str} {i : Nat} {v : V} (h : (xs.map V.str)[i]? = some v) : ∃ x, v = .str x ∧ xs[i]? = some x := by
  rw [List.getElem?_map] at h
  cases e : xs[i]? with
  | none => rw [e] at h; cases h
  | some r => rw [e] at h; exact ⟨r, (Option.some.inj h).symm, rfl⟩
theorem at0 {v : V} {r : List V} : atI (v :: r) 0 = some v := by
  unfold atI ixN
  rw [if_pos (Int.le_refl 0), if_pos (by rw [List.length_cons]; omega)]
  rfl
theorem at0N {α : Type} {v : α} {r : List α} : atI (v :: r) 0 = some v := by
  unfold atI ixN
  rw [if_pos (Int.le_refl 0), if_pos (by rw [List.length_cons]; omega)]
  rfl
theorem at_nat {α : Type} {xs : List α} {r : Int} (h0 : 0 ≤ r) (h1 : r < (xs.length : Int)) : ∃ v, xs[r.toNat]? = some v ∧ atI xs r = some v := by
  have hk : r.toNat < xs.length := by omega
  refine ⟨_, List.getElem?_eq_getElem hk, ?_⟩
  have q := atI_nat (List.getElem?_eq_getElem hk)
  rw [Int.toNat_of_nonneg h0] at q
  exact q
def alpha : Str := "abcdefghijklmnopqrstuvwxyz"
def figs : Str := "0123456789"
theorem alpha_mem (c : Nat) : c ∈ sL alpha ↔ 97 ≤ c ∧ c ≤ 122 := by
  refine ⟨fun h => ?_, fun h => ?_⟩
  · have : ∀ c ∈ sL alpha, 97 ≤ c ∧ c ≤ 122 := by decide +kernel
    exact this c h
  · have : ∀ n : Fin 26, 97 + n.val ∈ sL alpha := by decide +kernel
    have := this ⟨c - 97, by omega⟩
    rw [show 97 + (c - 97) = c from by omega] at this
    exact this
theorem figs_mem (c : Nat) : c ∈ sL figs ↔ isD c := by
  unfold isD
  refine ⟨fun h => ?_, fun h => ?_⟩
  · have : ∀ c ∈ sL figs, 48 ≤ c ∧ c ≤ 57 := by decide +kernel
    exact this c h
  · have : ∀ n : Fin 10, 48 + n.val ∈ sL figs := by decide +kernel
    have := this ⟨c - 48, by omega⟩
    rw [show 48 + (c - 48) = c from by omega] at this
    exact this
theorem kept_iff (z : Str) : z ∈ taken ↔ sL z ∈ keptL := by
  unfold keptL
  rw [List.mem_map]
  exact ⟨fun h => ⟨z, h, rfl⟩, fun ⟨x, h, e⟩ => by rw [← sL_inj e]; exact h⟩
theorem take_map {α : Type} {xs : List Nat} {f : Nat → α} {i : Nat} {c : Nat} (h : xs[i]? = some c) : (xs.take (i + 1)).map f = (xs.take i).map f ++ [f c] := by
  rw [List.take_succ, h, List.map_append]
  rfl
theorem cps_at {z : Str} {i : Nat} {c : Nat} (h : z.cps[i]? = some c) : (sL z)[i]? = some c := by rw [Array.getElem?_toList]; exact h
theorem all_dec {p : Nat → Prop} [DecidablePred p] (l : List Nat) : (l.map fun c => decide (p c)).all id = decide (∀ c ∈ l, p c) := by
  induction l with
  | nil => simp
  | cons x r ih =>
    rw [List.map_cons, List.all_cons, ih]
    simp
theorem sig_mem (z : Str) : z ∈ (["+", "-", "*", "<", "="] : List Str) ↔ ∃ s ∈ sg, sL z = [s] := by
  refine ⟨fun h => ?_, fun ⟨s, h, e⟩ => ?_⟩
  · simp only [List.mem_cons, List.not_mem_nil, or_false] at h
    rcases h with rfl | rfl | rfl | rfl | rfl <;> exact ⟨_, by decide +kernel, rfl⟩
  · have : z = mkS [s] := sL_inj e
    rw [this]
    unfold sg at h
    simp only [List.mem_cons, List.not_mem_nil, or_false] at h
    rcases h with rfl | rfl | rfl | rfl | rfl <;> decide +kernel
theorem numOf_len {w : List Nat} {n : Nat} (h : numOf w = some n) : 1 ≤ w.length ∧ w.length ≤ 3 ∧ (∀ c ∈ w, isD c) ∧ ¬ (w.head? = some 48 ∧ 1 < w.length) := by
  obtain ⟨h1, rfl⟩ := numOf_some h
  obtain ⟨a, b, c⟩ := dg_digits h1
  refine ⟨b, c, a, fun ⟨z1, z2⟩ => ?_⟩
  unfold dg at z1 z2
  split at z1
  · rename_i q; rw [if_pos q] at z2; simp at z2
  · split at z1
    · have := Option.some.inj z1; omega
    · have := Option.some.inj z1; omega
theorem numOf_of {w : List Nat} (h1 : 1 ≤ w.length) (h2 : w.length ≤ 3) (h3 : ∀ c ∈ w, isD c) (h4 : ¬ (w.head? = some 48 ∧ 1 < w.length)) : ∃ n, numOf w = some n ∧ n = NumText.digitsVal w ∧ n ≤ 999 := by
  match w, h1, h2, h3, h4 with
  | [a], _, _, h3, h4 =>
    have ha := h3 a (by simp)
    refine ⟨a - 48, if_pos ha, ?_, by unfold isD at ha; omega⟩
    show a - 48 = 0 * 10 + (a - 48)
    omega
  | [a, b], _, _, h3, h4 =>
    have ha := h3 a (by simp)
    have hb := h3 b (by simp)
    have na : a ≠ 48 := fun z => h4 ⟨by rw [z]; rfl, by simp⟩
    refine ⟨(a - 48) * 10 + (b - 48), if_pos ⟨ha, na, hb⟩, ?_, by unfold isD at ha hb; omega⟩
    show (a - 48) * 10 + (b - 48) = (0 * 10 + (a - 48)) * 10 + (b - 48)
    omega
  | [a, b, c], _, _, h3, h4 =>
    have ha := h3 a (by simp)
    have hb := h3 b (by simp)
    have hc := h3 c (by simp)
    have na : a ≠ 48 := fun z => h4 ⟨by rw [z]; rfl, by simp⟩
    refine ⟨(a - 48) * 100 + (b - 48) * 10 + (c - 48), if_pos ⟨ha, na, hb, hc⟩, ?_, by unfold isD at ha hb hc; omega⟩
    show (a - 48) * 100 + (b - 48) * 10 + (c - 48) = ((0 * 10 + (a - 48)) * 10 + (b - 48)) * 10 + (c - 48)
    omega
theorem closeN_add : ∀ (i m : Nat) (st : Sta), Sta.closeN (i + m) st = (Sta.closeN i st).bind (Sta.closeN m)
  | 0, m, st => by rw [Nat.zero_add]; rfl
  | i + 1, m, st => by
    rw [show i + 1 + m = (i + m) + 1 from by omega]
    show (st.close).bind (Sta.closeN (i + m)) = ((st.close).bind (Sta.closeN i)).bind (Sta.closeN m)
    cases st.close with
    | none => rfl
    | some s => exact closeN_add i m s
theorem part_len {ps : List (List Nat)} : ∀ {p : List Nat}, p ∈ ps → p.length ≤ (jn ps).length := by
  induction ps with
  | nil => intro p h; exact absurd h List.not_mem_nil
  | cons w r ih =>
    intro p h
    cases r with
    | nil => rw [List.mem_singleton.mp h]; exact Nat.le_refl _
    | cons v r =>
      have e : (jn (w :: v :: r)).length = w.length + 1 + (jn (v :: r)).length := by
        show (w ++ 32 :: jn (v :: r)).length = _
        rw [List.length_append, List.length_cons]; omega
      rw [e]
      rcases List.mem_cons.mp h with q | q
      · rw [q]; omega
      · have := ih q; omega
/-! ### writing a term: what waits -/
abbrev Itm := Str ⊕ PT
def ItV (H : Hp) (v : V) (i : Itm) : Prop := match i with
  | .inl x => v = .str x
  | .inr t => PV H v t
def itS : Itm → List Nat
  | .inl x => sL x
  | .inr t => shw t
def PT.sz : PT → Nat
  | .num _ => 1
  | .nam _ => 1
  | .op _ a b => 8 + a.sz + b.sz
def itZ : Itm → Nat
  | .inl _ => 1
  | .inr t => t.sz
def itSz (l : List Itm) : Nat := (l.map itZ).sum
theorem itSz_app (l : List Itm) (i : Itm) : itSz (l ++ [i]) = itSz l + itZ i := by unfold itSz; simp
def opIt (s : Nat) (a b : PT) : List Itm := [.inl ")", .inr b, .inl " ", .inr a, .inl " ", .inl ⟨#[s]⟩, .inl "("]
theorem op_sz (l : List Itm) (s : Nat) (a b : PT) : itSz (l ++ opIt s a b) + 1 ≤ itSz (l ++ [.inr (.op s a b)]) := by
  unfold itSz opIt
  simp [itZ, PT.sz]
  omega
/-- the pieces, then what waits from its end, are the term's text -/
structure ItD (ps : List Str) (its : List Itm) (T : PT) : Prop where
  eq : (ps.flatMap sL) ++ (its.reverse.flatMap itS) = shw T
  ok : ∀ t, Sum.inr t ∈ its → t.ok
  ne : ∀ p ∈ ps, 1 ≤ p.length
  ni : ∀ x, Sum.inl x ∈ its → 1 ≤ x.length
theorem len_fm : ∀ {ps : List Str}, (∀ p ∈ ps, 1 ≤ p.length) → ps.length ≤ (ps.flatMap sL).length
  | [], _ => Nat.le_refl _
  | p :: r, h => by
    have := len_fm (ps := r) fun q hq => h q (List.mem_cons_of_mem _ hq)
    have := h p List.mem_cons_self
    rw [List.flatMap_cons, List.length_append, List.length_cons, sL_len]
    omega
theorem len_it : ∀ {its : List Itm}, (∀ t, Sum.inr t ∈ its → t.ok) → (∀ x, Sum.inl x ∈ its → 1 ≤ x.length) → its.length ≤ (its.flatMap itS).length
  | [], _, _ => Nat.le_refl _
  | i :: r, h, k => by
    have := len_it (its := r) (fun t ht => h t (List.mem_cons_of_mem _ ht)) fun x hx => k x (List.mem_cons_of_mem _ hx)
    have : 1 ≤ (itS i).length := by
      cases i with
      | inl x => exact k x List.mem_cons_self
      | inr t => exact shw_pos (h t List.mem_cons_self)
    rw [List.flatMap_cons, List.length_append, List.length_cons]
    omega
section
variable {ps : List Str} {its : List Itm} {T : PT}
theorem itd_init {T : PT} (h : T.ok) : ItD [] [.inr T] T := ⟨by simp [itS], fun t ht => by
  have : t = T := by simpa using ht
  rw [this]; exact h, fun p hp => absurd hp List.not_mem_nil, fun x hx => by simp at hx⟩
theorem ItD.plen (d : ItD ps its T) : ps.length ≤ (shw T).length := by
  have := len_fm d.ne
  have := congrArg List.length d.eq
  rw [List.length_append] at this
  omega
theorem ItD.ilen (d : ItD ps its T) : its.length ≤ (shw T).length := by
  have h := len_it (its := its.reverse) (fun t ht => d.ok t (List.mem_reverse.mp ht)) fun x hx => d.ni x (List.mem_reverse.mp hx)
  have := congrArg List.length d.eq
  rw [List.length_append] at this
  rw [List.length_reverse] at h
  omega
theorem sL_glue : ∀ (ys : List Str) (a : Array Nat), (ys.foldl (fun acc p => acc ++ ("" : Str).cps ++ p.cps) a).toList = a.toList ++ ys.flatMap sL
  | [], a => by simp
  | y :: r, a => by
    rw [List.foldl_cons, sL_glue r, Array.toList_append, Array.toList_append]
    show a.toList ++ [] ++ sL y ++ _ = _
    simp
theorem join_fm (ps : List Str) : Txt.join "" ps = mkS (ps.flatMap sL) := by
  apply sL_inj
  cases ps with
  | nil => rfl
  | cons y r => exact sL_glue r y.cps
theorem ItD.done (d : ItD ps [] T) : Txt.join "" ps = mkS (shw T) := by
  rw [join_fm, ← d.eq]
  simp
theorem ItD.sum (d : ItD ps [] T) : (ps.map (·.length)).sum = (shw T).length := by
  rw [← d.eq]
  have : ∀ l : List Str, (l.map (·.length)).sum = (l.flatMap sL).length := by
    intro l
    induction l with
    | nil => rfl
    | cons x r ih => rw [List.map_cons, List.sum_cons, ih, List.flatMap_cons, List.length_append, sL_len]
  rw [this]; simp
theorem rev_fm (l : List Itm) (i : Itm) : (l ++ [i]).reverse.flatMap itS = itS i ++ l.reverse.flatMap itS := by
  rw [List.reverse_append]; simp
theorem ItD.move {it : Itm} {x : Str} (d : ItD ps (its ++ [it]) T) (e : sL x = itS it) : ItD (ps ++ [x]) its T := by
  refine ⟨?_, fun t ht => d.ok t (List.mem_append_left _ ht), fun p hp => ?_, fun y hy => d.ni y (List.mem_append_left _ hy)⟩
  · rw [← d.eq, rev_fm, List.flatMap_append]
    simp [e]
  · rcases List.mem_append.mp hp with q | q
    · exact d.ne p q
    · rw [List.mem_singleton.mp q, ← sL_len, e]
      cases it with
      | inl y => exact d.ni y (by simp)
      | inr t => exact shw_pos (d.ok t (by simp))
theorem ItD.str {x : Str} (d : ItD ps (its ++ [.inl x]) T) : ItD (ps ++ [x]) its T := d.move rfl
theorem ItD.okt {t : PT} (d : ItD ps (its ++ [.inr t]) T) : t.ok := d.ok t (by simp)
theorem ItD.nam {x : List Nat} (d : ItD ps (its ++ [.inr (.nam x)]) T) : ItD (ps ++ [mkS x]) its T := d.move rfl
theorem dg_text {n : Nat} (h : n ≤ 999) : sL (Str.ofString (toString (n : Int))) = dg n := by
  have : ∀ m : Fin 1000, sL (Str.ofString (toString ((m.val : Nat) : Int))) = dg m.val := by decide +kernel
  exact this ⟨n, by omega⟩
theorem ItD.num {n : Nat} (d : ItD ps (its ++ [.inr (.num n)]) T) (h : (PT.num n).ok) : ItD (ps ++ [Str.ofString (toString (n : Int))]) its T := d.move (dg_text h)
theorem ItD.op {s : Nat} {a b : PT} (d : ItD ps (its ++ [.inr (.op s a b)]) T) : ItD ps (its ++ opIt s a b) T := by
  have o := d.okt
  refine ⟨?_, fun t ht => ?_, d.ne, fun x hx => ?_⟩
  · rw [← d.eq, rev_fm, List.reverse_append, List.flatMap_append]
    have e1 : sL "(" = [40] := by decide +kernel
    have e2 : sL " " = [32] := by decide +kernel
    have e3 : sL ")" = [41] := by decide +kernel
    have : List.flatMap itS (opIt s a b).reverse = itS (.inr (.op s a b)) := by
      show List.flatMap itS [.inl "(", .inl ⟨#[s]⟩, .inl " ", .inr a, .inl " ", .inr b, .inl ")"] = 40 :: s :: 32 :: (shw a ++ 32 :: (shw b ++ [41]))
      have e4 : sL ⟨#[s]⟩ = [s] := rfl
      simp [itS, e1, e2, e3, e4]
    rw [this]
  · rcases List.mem_append.mp ht with q | q
    · exact d.ok t (List.mem_append_left _ q)
    · have : t = b ∨ t = a := by simpa [opIt] using q
      rcases this with e | e
      · rw [e]; exact o.2.2
      · rw [e]; exact o.2.1
  · rcases List.mem_append.mp hx with q | q
    · exact d.ni x (List.mem_append_left _ q)
    · simp only [opIt, List.mem_cons, List.not_mem_nil, or_false, Sum.inl.injEq, reduceCtorEq, false_or] at q
      rcases q with e | e | e | e | e <;> (rw [e]; first | decide +kernel | exact Nat.le_refl _)
end
theorem op_two {H : Hp} {s : Nat} {a b : PT} {u v : V} (ha : PV H u a) (hb : PV H v b) : Two (ItV H) [.str ")", v, .str " ", u, .str " ", .str ⟨#[s]⟩, .str "("] (opIt s a b) := ⟨rfl, hb, rfl, ha, rfl, rfl, rfl, trivial⟩
theorem wNO : ¬ (V.str "num" = V.str "op") := by decide +kernel
theorem wMO : ¬ (V.str "name" = V.str "op") := by decide +kernel
theorem log_ok {n : Nat} (h : (PT.num n).ok) : ((n : Int)).natAbs.log2 < 1920 := by
  have h : n ≤ 999 := h
  show n.log2 < 1920
  have := Nat.log2_lt (n := n) (k := 1920)
  by_cases c : n = 0
  · rw [c]; decide
  · exact (Nat.log2_lt c).mpr (Nat.lt_of_le_of_lt h (Nat.lt_of_lt_of_le (show 999 < 2 ^ 10 by decide) (Nat.pow_le_pow_right (by decide) (by decide))))
theorem two1 {α : Type} {R : V → α → Prop} {vs : List V} {a : α} (h : Two R vs [a]) : ∃ v1, vs = [v1] ∧ R v1 a := by
  rcases vs with _ | ⟨v1, _ | ⟨v2, r⟩⟩
  · exact h.elim
  · exact ⟨v1, rfl, h.1⟩
  · exact h.2.elim
theorem two2 {α : Type} {R : V → α → Prop} {vs : List V} {a b : α} (h : Two R vs [a, b]) : ∃ v1 v2, vs = [v1, v2] ∧ R v1 a ∧ R v2 b := by
  rcases vs with _ | ⟨v1, _ | ⟨v2, _ | ⟨v3, r⟩⟩⟩
  · exact h.elim
  · exact h.2.elim
  · exact ⟨v1, v2, rfl, h.1, h.2.1⟩
  · exact h.2.2.elim
theorem snoc_cases {α : Type} (l : List α) : l = [] ∨ ∃ r x, l = r ++ [x] := by
  rcases List.eq_nil_or_concat l with e | ⟨r, x, e⟩
  · exact .inl e
  · exact .inr ⟨r, x, by rw [e, List.concat_eq_append]⟩
theorem two_snoc {α : Type} {R : V → α → Prop} : ∀ {as : List α} {vs : List V} {a : α}, Two R vs (as ++ [a]) → ∃ us v, vs = us ++ [v] ∧ Two R us as ∧ R v a
  | [], [v], a, ⟨e, _⟩ => ⟨[], v, rfl, trivial, e⟩
  | [], _ :: _ :: _, _, ⟨_, z⟩ => z.elim
  | [], [], _, z => z.elim
  | b :: bs, [], _, z => z.elim
  | b :: bs, v :: vs, a, ⟨e, r⟩ => by
    obtain ⟨us, u, h1, h2, h3⟩ := two_snoc (as := bs) r
    exact ⟨v :: us, u, by rw [h1]; rfl, ⟨e, h2⟩, h3⟩
end Mine
namespace L2
open PySem PySem.Spec PyProof.Rows
/-! ### loops whose turns neither break nor return: the rest of the def is out of their sight -/
theorem for_rangeA {lo : Int} {n : Nat} {g : TG} {tb : TS} {D : Ends} {σ : St} {H : Hp} (Pv : Nat → St → Hp → Prop) (h0 : Pv 0 σ H)
    (hs : ∀ (D' : Ends), ∀ i σ H, i < n → Pv i σ H → g (.int (lo + i)) σ H fun σ2 H2 => tb { D' with nx := Pv (i + 1), ct := Pv (i + 1), bk := D'.nx } σ2 H2) (hd : ∀ σ H, Pv n σ H → D.nx σ H) :
    ∃ W : Nat → Nat → St → Hp → Prop, (∃ m, W 0 m σ H) ∧ ∀ i m σ H, W i m σ H →
      ((Itr lo n).stop i H ∧ D.nx σ H) ∨ ((Itr lo n).go i H ∧ ∃ N : St → Hp → Prop, (∀ σ' H', N σ' H' → ∃ m', m' < m ∧ W (i + 1) m' σ' H') ∧ ∀ x H', (Itr lo n).yld i H x H' → g x σ H' fun σ2 H2 => tb { D with nx := N, ct := N, bk := D.nx } σ2 H2) := for_range Pv h0 (hs D) hd
end L2
namespace Mine
open PySem L2
theorem for_strA {x : Str} {g : TG} {tb : L2.TS} {D : L2.Ends} {σ : L2.St} {H : Hp} (Pv : Nat → L2.St → Hp → Prop) (h0 : Pv 0 σ H)
    (hs : ∀ i c σ H, x.cps[i]? = some c → Pv i σ H → g (.str ⟨#[c]⟩) σ H fun σ2 H2 => tb { D with nx := Pv (i + 1), ct := Pv (i + 1), bk := D.nx } σ2 H2) (hd : ∀ σ H, Pv x.length σ H → D.nx σ H) :
    ∃ W : Nat → Nat → L2.St → Hp → Prop, (∃ m, W 0 m σ H) ∧ ∀ i m σ H, W i m σ H →
      ((Its x).stop i H ∧ D.nx σ H) ∨ ((Its x).go i H ∧ ∃ N : L2.St → Hp → Prop, (∀ σ' H', N σ' H' → ∃ m', m' < m ∧ W (i + 1) m' σ' H') ∧ ∀ v H', (Its x).yld i H v H' → g v σ H' fun σ2 H2 => tb { D with nx := N, ct := N, bk := D.nx } σ2 H2) := by
  refine ⟨fun i m σ H => m = x.length - i ∧ i ≤ x.length ∧ Pv i σ H, ⟨x.length, by simp, Nat.zero_le _, h0⟩, ?_⟩
  rintro i m σ H ⟨rfl, hi, p⟩
  by_cases hlt : i < x.length
  · refine .inr ⟨hlt, Pv (i + 1), fun σ' H' p' => ⟨x.length - (i + 1), by omega, rfl, hlt, p'⟩, fun v H' y => ?_⟩
    obtain ⟨e, c, hc, ev⟩ := y
    subst e ev
    exact hs i c σ _ hc p
  · have e : i = x.length := by omega
    subst e
    exact .inl ⟨Nat.le_refl _, hd σ H p⟩
theorem at_k2 {α : Type} {xs : List α} {v : α} (k : Nat) (h : xs[k]? = some v) : atI xs (k : Int) = some v := by
  have l := (List.getElem?_eq_some_iff.mp h).1
  obtain ⟨u, e1, e2⟩ := at_nat (xs := xs) (r := (k : Int)) (by omega) (by omega)
  rw [Int.toNat_natCast, h] at e1
  cases e1
  exact e2
theorem at_k {α : Type} {xs : List α} {v : α} (k : Nat) (h : xs[k]? = some v) : atI xs (k : Int) = some v := at_k2 k h
theorem jn_len : ∀ ps : List (List Nat), ps.length ≤ (jn ps).length + 1
  | [] => Nat.zero_le _
  | [_] => by simp
  | w :: x :: r => by
    have := jn_len (x :: r)
    rw [jn_cons w (by simp), List.length_append, List.length_cons, List.length_cons] at *
    simp only [List.length_cons] at *
    omega
theorem parts_cnt (t : List Nat) : (parts t).length ≤ t.length + 1 := by
  by_cases h : parts t = []
  · rw [h]; exact Nat.zero_le _
  · have := jn_len (parts t)
    rw [parts_join h] at this
    exact this
theorem ix_last (n : Nat) : ixN (n + 1) (-1) = some n := by
  unfold ixN
  rw [if_neg (by decide), if_pos (by omega)]
  congr 1
  omega
theorem at_last {α : Type} (xs : List α) (v : α) : atI (xs ++ [v]) (-1) = some v := by
  unfold atI
  rw [List.length_append, show [v].length = 1 from rfl, ix_last]
  simp
theorem ix_last2 {α : Type} (xs : List α) (v : α) : ixN (xs ++ [v]).length (-1) = some xs.length := by
  rw [List.length_append]
  exact ix_last _
theorem set_last_eq {α : Type} (xs : List α) (v u : α) : (xs ++ [v]).set xs.length u = xs ++ [u] := by simp
/-! ### the state of draws -/
def Dw (H : Hp) (s : Addr) : Prop := ∃ (c : Addr) (ns : List Int) (a b i : Int), H s = some (.lst [.ref c, .int a, .int b, .int i]) ∧ H c = some (.lst (ns.map V.int)) ∧ s ≠ c ∧ 0 ≤ a ∧ 0 ≤ b ∧ 0 ≤ i ∧ ns.length ≤ 63
theorem Dw.same {H H' : Hp} {s : Addr} (h : Dw H s) (m : Same H H') : Dw H' s := by
  obtain ⟨c, ns, a, b, i, e, ec, r⟩ := h
  exact ⟨c, ns, a, b, i, m _ _ e, m _ _ ec, r⟩
theorem Dw.ne {H : Hp} {s a : Addr} (h : Dw H s) (n : H a = none) : a ≠ s := fun z => by
  obtain ⟨c, ns, x, b, i, e, ec, r⟩ := h
  rw [z, e] at n; cases n
theorem off_at {s b : Addr} {H H' : Hp} {o : HO} (f : Off [s] H H') (e : H b = some o) (n : b ≠ s) : H' b = some o := f b o e (by simpa using n)
theorem Dw.ts {H H' : Hp} {s : Addr} (h : Dw H s) (f : Off [s] H H') : TS H H' := fun a xs e => off_at f e fun z => by
  obtain ⟨c, ns, x, b, i, es, ec, r⟩ := h
  rw [z, es] at e; cases e
theorem str_mem {z : Str} {r : Int} (h0 : 0 ≤ r) (h1 : r < (z.length : Int)) : ∃ c, atI z.cps.toList r = some c ∧ c ∈ sL z := by
  obtain ⟨c, e1, e2⟩ := at_nat (xs := z.cps.toList) h0 (by rw [show z.cps.toList.length = z.length from rfl]; exact h1)
  exact ⟨c, e2, List.mem_of_getElem? e1⟩
/-! ### terms: how deep, how many parts, as data -/
def dep : PT → Nat
  | .num _ => 1
  | .nam _ => 1
  | .op _ a b => max (dep a) (dep b) + 1
def np : PT → Nat
  | .num _ => 1
  | .nam _ => 1
  | .op _ a b => 1 + np a + np b
theorem dep_cnt : ∀ {t : PT}, t.ok → dep t ≤ cnt (shw t) + 1
  | .num _, _ => by unfold dep; omega
  | .nam _, _ => by unfold dep; omega
  | .op s a b, h => by
    have := dep_cnt h.2.1
    have := dep_cnt h.2.2
    have := cnt_op s a b
    unfold dep
    omega
theorem shw_np : ∀ {t : PT}, t.ok → (shw t).length + 5 ≤ 13 * np t
  | .num n, h => by have := (dg_digits h).2.2; show (dg n).length + 5 ≤ 13 * 1; omega
  | .nam x, h => by have := h.2.1; show x.length + 5 ≤ 13 * 1; omega
  | .op s a b, h => by
    have := shw_np h.2.1
    have := shw_np h.2.2
    simp only [shw, np, List.length_cons, List.length_append, List.length_nil]
    omega
def dat : PT → PyData
  | .num n => .tuple [.str "num", .int n]
  | .nam x => .tuple [.str "name", .str (mkS x)]
  | .op s a b => .tuple [.str "op", .str ⟨#[s]⟩, dat a, dat b]
theorem dat_rep {K : PySem.W.Frag} {H : Hp} : ∀ {T : PT} {p : Addr}, PH H T p → RepD K H (dat T) (.ref p)
  | .num n, p, h => ⟨p, _, rfl, SqT.of h, _, _, rfl, rfl, _, _, rfl, rfl, rfl⟩
  | .nam x, p, h => ⟨p, _, rfl, SqT.of h, _, _, rfl, rfl, _, _, rfl, rfl, rfl⟩
  | .op s a b, p, ⟨qa, qb, h, ha, hb⟩ => ⟨p, _, rfl, SqT.of h, _, _, rfl, rfl, _, _, rfl, rfl, _, _, rfl, dat_rep ha, _, _, rfl, dat_rep hb, rfl⟩
theorem strOk_of {x : List Nat} (h : ∀ c ∈ x, c < 1114112) : PyData.strOk (mkS x) = true := by
  unfold PyData.strOk
  rw [← Array.all_toList]
  exact List.all_eq_true.mpr fun c hc => decide_eq_true (h c hc)
theorem sg_lt {s : Nat} (h : s ∈ sg) : s < 128 := by
  have : ∀ s ∈ sg, s < 128 := by decide
  exact this s h
theorem dat_lay : ∀ {T : PT}, T.ok → PyData.canLay0 (dat T) = true
  | .num n, h => by
    have e : PyData.strOk "num" = true := by decide +kernel
    simp [dat, PyData.canLay0, PyData.canLayAll0, e]
  | .nam x, h => by
    have e : PyData.strOk "name" = true := by decide +kernel
    have e2 := strOk_of (x := x) fun c hc => by have := h.2.2.1 c hc; omega
    simp [dat, PyData.canLay0, PyData.canLayAll0, e, e2]
  | .op s a b, h => by
    have e : PyData.strOk "op" = true := by decide +kernel
    have e2 : PyData.strOk ⟨#[s]⟩ = true := strOk_of (x := [s]) fun c hc => by rw [List.mem_singleton.mp hc]; have := sg_lt h.1; omega
    simp [dat, PyData.canLay0, PyData.canLayAll0, e, e2, dat_lay h.2.1, dat_lay h.2.2]
theorem dat_dep : ∀ T : PT, PyData.depth (dat T) = dep T
  | .num n => rfl
  | .nam x => rfl
  | .op s a b => by simp [dat, PyData.depth, PyData.depthAll, dat_dep a, dat_dep b, dep]
def oD (o : Option PT) : PyData := match o with
  | none => .none
  | some T => dat T
def OV (H : Hp) (v : V) (o : Option PT) : Prop := match o with
  | none => v = .non
  | some T => PV H v T
theorem OV.same {H H' : Hp} (m : Same H H') {v : V} : ∀ {o : Option PT}, OV H v o → OV H' v o
  | none, h => h
  | some T, h => PV.ts (.of m) h
theorem od_rep {K : PySem.W.Frag} {H : Hp} : ∀ {os : List (Option PT)} {vs : List V}, Two (OV H) vs os → RepL K H (os.map oD) vs
  | [], [], _ => rfl
  | [], _ :: _, z => z.elim
  | _ :: _, [], z => z.elim
  | none :: r, v :: vs, ⟨e, t⟩ => ⟨v, vs, rfl, e, od_rep t⟩
  | some T :: r, v :: vs, ⟨⟨p, e, h⟩, t⟩ => ⟨v, vs, rfl, by rw [e]; exact dat_rep h, od_rep t⟩
theorem od_lay : ∀ {os : List (Option PT)}, (∀ T, some T ∈ os → T.ok ∧ dep T ≤ 60) → PyData.canLayAll0 (os.map oD) = true ∧ PyData.depthAll (os.map oD) ≤ 60
  | [], _ => ⟨rfl, Nat.zero_le _⟩
  | none :: r, h => by
    have := od_lay (os := r) fun T m => h T (List.mem_cons_of_mem _ m)
    simp [PyData.canLayAll0, PyData.depthAll, oD, PyData.canLay0, PyData.depth, this]
  | some T :: r, h => by
    have := od_lay (os := r) fun T m => h T (List.mem_cons_of_mem _ m)
    have q := h T List.mem_cons_self
    simp only [List.map_cons, PyData.canLayAll0, PyData.depthAll, oD, dat_lay q.1, dat_dep, this.1, Bool.and_self, true_and]
    omega
theorem od_shaped {os : List (Option PT)} (h : ∀ T, some T ∈ os → T.ok ∧ dep T ≤ 60) : SeqAt.shaped (.list (os.map oD)) = true := by
  have := od_lay h
  simp [SeqAt.shaped, PyData.canLay0, PyData.depth, this.1]
  omega
theorem od_mix {os : List (Option PT)} : ∀ e ∈ os.map oD, SeqAt.noMix e .none = true := fun e he => by
  obtain ⟨o, _, rfl⟩ := List.mem_map.mp he
  match o with
  | none => rfl
  | some (.num _) => rfl
  | some (.nam _) => rfl
  | some (.op _ _ _) => rfl
theorem od_cnt : ∀ os : List (Option PT), decide (Spec.countIn .none (os.map oD) ≠ 0) = decide (none ∈ os) ∧ 0 ≤ Spec.countIn .none (os.map oD)
  | [] => ⟨by simp [Spec.countIn], by simp [Spec.countIn]⟩
  | none :: r => by
    have := (od_cnt r).2
    have e : Spec.countIn .none ((none :: r).map oD) = 1 + Spec.countIn .none (r.map oD) := rfl
    rw [e]
    exact ⟨by simp; omega, by omega⟩
  | some T :: r => by
    have := od_cnt r
    have e : Spec.countIn .none ((some T :: r).map oD) = 0 + Spec.countIn .none (r.map oD) := by
      cases T <;> rfl
    rw [e, Int.zero_add, this.1]
    exact ⟨by simp, this.2⟩
theorem two_hole {os : List (Option PT)} (m : none ∈ os) : two os = none := by
  rcases os with _ | ⟨_ | a, _ | ⟨_ | b, _ | ⟨c, r⟩⟩⟩
  any_goals rfl
  exact absurd m (by simp)
theorem two_some {os : List (Option PT)} (h : os.length = 2 ∧ none ∉ os) : ∃ a b, os = [some a, some b] := by
  rcases os with _ | ⟨o1, _ | ⟨o2, _ | ⟨c, r⟩⟩⟩
  · cases h.1
  · cases h.1
  · cases o1 with
    | none => exact absurd List.mem_cons_self h.2
    | some a =>
      cases o2 with
      | none => exact absurd (List.mem_cons_of_mem _ List.mem_cons_self) h.2
      | some b => exact ⟨a, b, rfl⟩
  · exact absurd h.1 (by simp)
theorem two_none {os : List (Option PT)} (h : ¬ (os.length = 2 ∧ none ∉ os)) : two os = none := by
  cases q : two os with
  | none => rfl
  | some e => exact absurd ⟨two_len q, fun m => by rw [two_hole m] at q; cases q⟩ h
/-! ### alike -/
def Al (H : Hp) : Nat → V → V → Prop
  | 0, _, _ => False
  | n + 1, x, y => (∃ a, x = .str a ∧ y = .str a) ∨ (∃ i, x = .int i ∧ y = .int i) ∨ ∃ p q xs ys, x = .ref p ∧ y = .ref q ∧ H p = some (.tup xs) ∧ H q = some (.tup ys) ∧ xs.length = ys.length ∧ xs.length ≤ 4 ∧ ∀ (i : Nat) u v, xs[i]? = some u → ys[i]? = some v → Al H n u v
theorem Al.ts {H H' : Hp} (t : TS H H') {n : Nat} : ∀ {x y : V}, Al H n x y → Al H' n x y := by
  induction n with
  | zero => exact fun h => h
  | succ n ih =>
    intro x y h
    rcases h with h | h | ⟨p, q, xs, ys, e1, e2, h1, h2, l, l4, k⟩
    · exact Or.inl h
    · exact Or.inr (.inl h)
    · exact Or.inr (.inr ⟨p, q, xs, ys, e1, e2, t _ _ h1, t _ _ h2, l, l4, fun i u v a b => ih (k i u v a b)⟩)
theorem al_s {H : Hp} {n : Nat} (a : Str) : Al H (n + 1) (.str a) (.str a) := Or.inl ⟨a, rfl, rfl⟩
theorem al_i {H : Hp} {n : Nat} (a : Int) : Al H (n + 1) (.int a) (.int a) := Or.inr (.inl ⟨a, rfl, rfl⟩)
theorem al_2 {H : Hp} {n : Nat} {p q : Addr} {a b c d : V} (h1 : H p = some (.tup [a, b])) (h2 : H q = some (.tup [c, d])) (k1 : Al H n a c) (k2 : Al H n b d) : Al H (n + 1) (.ref p) (.ref q) := by
  refine Or.inr (.inr ⟨p, q, _, _, rfl, rfl, h1, h2, rfl, by simp, fun i u v e1 e2 => ?_⟩)
  match i, e1, e2 with
  | 0, e1, e2 => cases e1; cases e2; exact k1
  | 1, e1, e2 => cases e1; cases e2; exact k2
  | _ + 2, e1, _ => simp at e1
theorem al_4 {H : Hp} {n : Nat} {p q : Addr} {a b c d e f g h : V} (h1 : H p = some (.tup [a, b, c, d])) (h2 : H q = some (.tup [e, f, g, h])) (k1 : Al H n a e) (k2 : Al H n b f) (k3 : Al H n c g) (k4 : Al H n d h) : Al H (n + 1) (.ref p) (.ref q) := by
  refine Or.inr (.inr ⟨p, q, _, _, rfl, rfl, h1, h2, rfl, by simp, fun i u v e1 e2 => ?_⟩)
  match i, e1, e2 with
  | 0, e1, e2 => cases e1; cases e2; exact k1
  | 1, e1, e2 => cases e1; cases e2; exact k2
  | 2, e1, e2 => cases e1; cases e2; exact k3
  | 3, e1, e2 => cases e1; cases e2; exact k4
  | _ + 4, e1, _ => simp at e1
theorem al_pt {H : Hp} : ∀ {T : PT} {n : Nat} {p q : Addr}, dep T ≤ n → PH H T p → PH H T q → Al H (n + 1) (.ref p) (.ref q)
  | .num _, n + 1, p, q, _, h1, h2 => al_2 h1 h2 (al_s _) (al_i _)
  | .nam _, n + 1, p, q, _, h1, h2 => al_2 h1 h2 (al_s _) (al_s _)
  | .op s a b, n + 1, p, q, hn, ⟨a1, b1, h1, ha1, hb1⟩, ⟨a2, b2, h2, ha2, hb2⟩ => by
    unfold dep at hn
    exact al_4 h1 h2 (al_s _) (al_s _) (al_pt (by omega) ha1 ha2) (al_pt (by omega) hb1 hb2)
  | .num _, 0, _, _, h, _, _ => absurd h (by unfold dep; omega)
  | .nam _, 0, _, _, h, _, _ => absurd h (by unfold dep; omega)
  | .op _ _ _, 0, _, _, h, _, _ => absurd h (by unfold dep; omega)
theorem al_term {H : Hp} {T : PT} {n : Nat} {p q a b : Addr} (h : dep T ≤ n) (h1 : PH H T p) (h2 : PH H T q) (ha : H a = some (.tup [.str "term", .ref p])) (hb : H b = some (.tup [.str "term", .ref q])) : Al H (n + 2) (.ref a) (.ref b) := al_2 ha hb (al_s _) (al_pt h h1 h2)
/-! ### names drawn -/
def LW (z : Str) : Prop := 1 ≤ z.length ∧ z.length ≤ 8 ∧ ∀ c ∈ sL z, 97 ≤ c ∧ c ≤ 122
theorem lw_ok {z : Str} (h : LW z) (k : z ∉ taken) : nmOk (sL z) := ⟨h.1, h.2.1, h.2.2, fun q => k ((kept_iff z).mpr q)⟩
instance (z : Str) : Decidable (LW z) := by unfold LW; infer_instance
instance (x : List Nat) : Decidable (nmOk x) := by unfold nmOk; infer_instance
theorem lw_kept {z : Str} (h : z ∈ taken) : nmOk (sL (Txt.slice z none (some 7) ++ "q")) := by
  have : ∀ z ∈ taken, nmOk (sL (Txt.slice z none (some 7) ++ "q")) := by decide +kernel
  exact this z h
theorem lw_more {z : Str} {c : Nat} (h : z ∈ taken) (k : c ∈ sL alpha) : LW (z ++ ⟨#[c]⟩) := by
  have q := (alpha_mem c).mp k
  have : ∀ z ∈ taken, z.length ≤ 7 ∧ ∀ c ∈ sL z, 97 ≤ c ∧ c ≤ 122 := by decide +kernel
  obtain ⟨t1, t2⟩ := this z h
  have e : sL (z ++ ⟨#[c]⟩) = sL z ++ [c] := sL_app _ _
  have l : (z ++ (⟨#[c]⟩ : Str)).length = z.length + 1 := by rw [← sL_len, e, List.length_append]; rfl
  refine ⟨by omega, by omega, fun d hd => ?_⟩
  rw [e] at hd
  rcases List.mem_append.mp hd with z | z
  · exact t2 d z
  · rw [List.mem_singleton.mp z]; exact q
theorem lw_less {z : Str} (h : z ∈ taken) : LW (Txt.slice z (some 1) none) ∧ LW (Txt.slice z none (some (-1))) := by
  have : ∀ z ∈ taken, LW (Txt.slice z (some 1) none) ∧ LW (Txt.slice z none (some (-1))) := by decide +kernel
  exact this z h
theorem val_999 {w : List Nat} (h2 : w.length ≤ 3) (h3 : ∀ c ∈ w, isD c) : NumText.digitsVal w ≤ 999 := by
  match w, h2, h3 with
  | [], _, _ => exact Nat.zero_le _
  | [a], _, h3 =>
    have ha := h3 a (by simp)
    show 0 * 10 + (a - 48) ≤ 999
    unfold isD at ha; omega
  | [a, b], _, h3 =>
    have ha := h3 a (by simp)
    have hb := h3 b (by simp)
    show (0 * 10 + (a - 48)) * 10 + (b - 48) ≤ 999
    unfold isD at ha hb; omega
  | [a, b, c], _, h3 =>
    have ha := h3 a (by simp)
    have hb := h3 b (by simp)
    have hc := h3 c (by simp)
    show ((0 * 10 + (a - 48)) * 10 + (b - 48)) * 10 + (c - 48) ≤ 999
    unfold isD at ha hb hc; omega
theorem num_word {z : Str} (h1 : 1 ≤ z.length) (h2 : z.length ≤ 3) (h3 : ∀ c ∈ sL z, isD c) : decide (V.str (Str.ofString (toString ((NumText.digitsVal (sL z) : Nat) : Int))) = V.str z) = (numOf (sL z)).isSome ∧ (∀ m, numOf (sL z) = some m → m = NumText.digitsVal (sL z)) := by
  have v9 := val_999 (w := sL z) h2 h3
  have key : ∀ m, numOf (sL z) = some m → m = NumText.digitsVal (sL z) := fun m e => by
    have q := numOf_len e
    obtain ⟨n, a1, a2, _⟩ := numOf_of q.1 q.2.1 h3 q.2.2.2
    rw [e] at a1
    cases a1
    exact a2
  refine ⟨?_, key⟩
  cases q : numOf (sL z) with
  | none =>
    refine decide_eq_false fun e => ?_
    injection e with e
    have := congrArg sL e
    rw [dg_text v9] at this
    rw [← this, numOf_dg v9] at q
    cases q
  | some m =>
    refine decide_eq_true ?_
    have e := key m q
    have w := (numOf_some q).2
    rw [e, ← dg_text v9] at w
    exact congrArg V.str (sL_inj w).symm
theorem not_nm {z : Str} (h1 : 1 ≤ z.length) (h3 : ∀ c ∈ sL z, isD c) : ¬ nmOk (sL z) := fun q => by
  cases e : sL z with
  | nil => rw [← sL_len, e] at h1; simp at h1
  | cons y r =>
    have a := h3 y (by rw [e]; exact List.mem_cons_self)
    have b := q.2.2.1 y (by rw [e]; exact List.mem_cons_self)
    unfold isD at a
    omega
theorem le_a (c : Nat) : (!decide ((⟨#[c]⟩ : Str).cps.toList < ("a" : Str).cps.toList)) = decide (97 ≤ c) := by
  have e : ("a" : Str).cps.toList = [97] := by decide +kernel
  rw [e]
  show (!decide ([c] < [97])) = _
  by_cases h : 97 ≤ c
  · rw [decide_eq_true h, decide_eq_false (by rw [List.cons_lt_cons_iff]; simp; omega)]; rfl
  · rw [decide_eq_false h, decide_eq_true (by rw [List.cons_lt_cons_iff]; simp; omega)]; rfl
theorem le_z (c : Nat) : (!decide (("z" : Str).cps.toList < (⟨#[c]⟩ : Str).cps.toList)) = decide (c ≤ 122) := by
  have e : ("z" : Str).cps.toList = [122] := by decide +kernel
  rw [e]
  show (!decide ([122] < [c])) = _
  by_cases h : c ≤ 122
  · rw [decide_eq_true h, decide_eq_false (by rw [List.cons_lt_cons_iff]; simp; omega)]; rfl
  · rw [decide_eq_false h, decide_eq_true (by rw [List.cons_lt_cons_iff]; simp; omega)]; rfl
/-- the class R of the exception, its parent D, the other classes cs -/
structure XFam1 (K : PySem.W.Frag) (R : Addr) (cs : List Addr) (D : Addr) : Prop where
  over : XOver K R D
  is : XIs K R
  ty : ∀ C ∈ cs, PySem.W.typeIn K (.ref C) = some (.type "type")
  cl : ∀ C ∈ cs, (PySem.W.clsIn K C).isSome = true
  nr : R ∉ cs
  nd : D ∉ cs
  dc : (PySem.W.clsIn K D).isSome = true
  dt : PySem.W.typeIn K (.ref D) = some (.type "type")
theorem XFam1.kit {K : PySem.W.Frag} {cs : List Addr} {R D C : Addr} (F : XFam1 K R cs D) (h : C ∈ cs) : PySem.W.kitOne K (.ref R) (.ref C) = some false := by
  have e : ¬ R = C := fun z => F.nr (z ▸ h)
  have ne : C ≠ D := fun z => F.nd (z ▸ h)
  have b : (Value.ref R == Value.ref C) = false := Bool.eq_false_iff.mpr fun q => e (Value.ref.inj (beq_iff_eq.mp q))
  obtain ⟨cd, hc⟩ := Option.isSome_iff_exists.mp (F.cl C h)
  unfold PySem.W.kitOne
  rw [b]
  unfold PySem.W.kitCls
  simp [hc, F.ty C h, F.over.subIn, Ne.symm e, ne, e]
theorem XFam1.self {K : PySem.W.Frag} {cs : List Addr} {R D : Addr} (F : XFam1 K R cs D) : PySem.W.kitOne K (.ref R) (.ref R) = some true := by
  unfold PySem.W.kitOne
  simp
theorem XFam1.ve {K : PySem.W.Frag} {cs : List Addr} {R D : Addr} (F : XFam1 K R cs D) : PySem.W.kitOne K (.ref R) (.type "ValueError") = some true := by
  unfold PySem.W.kitOne PySem.W.kitCls
  simp [kitm_ve, F.over.subIn]
theorem len5 {σ : L2.St} (h : σ.length = 5) : ∃ v0 v1 v2 v3 v4, σ = [v0, v1, v2, v3, v4] := by
  rcases σ with _ | ⟨a, _ | ⟨b, _ | ⟨c, _ | ⟨d, _ | ⟨e, _ | ⟨f, r⟩⟩⟩⟩⟩⟩
  · cases h
  · cases h
  · cases h
  · cases h
  · cases h
  · exact ⟨a, b, c, d, e, rfl⟩
  · exact absurd h (by simp)
def sm1 : List Str := ["of", "+1", "-1", "1_0", "01", "1000", "00", "a1", "1a", "abcdefghi", "A", "(1)", "(+ 1)"]
def sm2 : List Str := ["(+ 1 2 3)", "else"]
theorem boot_VE : bootBuiltins "ValueError" = some (.type "ValueError") := by decide +kernel
theorem pass2 {P : Program} {w : World} {X : Cx} : Passes (CX2 P w) X E0 := fun _ _ _ _ _ _ _ h => by
  obtain ⟨_, _, _, _, _, _, _, _, _, _, _, _, _, _, _, z⟩ := h
  exact z.elim
theorem isT_inj {z : Str} {T U : PT} (a : isT z T) (b : isT z U) : U = T := by
  have h1 := (readB_iff (n := cnt (sL z) + 1) (by omega)).mpr (show T.ok ∧ sL z = shw T from a)
  have h2 := (readB_iff (n := cnt (sL z) + 1) (by omega)).mpr (show U.ok ∧ sL z = shw U from b)
  rw [h1] at h2
  exact (Option.some.inj h2).symm
theorem cnt_less (l : List Nat) (i : Nat) : cnt (l.take i ++ l.drop (i + 1)) ≤ cnt l := by
  unfold cnt
  refine List.Sublist.count_le _ ?_
  have h : (l.take i ++ l.drop (i + 1)).Sublist (l.take i ++ l.drop i) := List.Sublist.append (List.Sublist.refl _) (by rw [← List.drop_drop]; exact List.drop_sublist _ _)
  rw [List.take_append_drop] at h
  exact h
/-! ### promises -/
def spDraw : Sp := fun vs H Q _ => ∃ (s : Addr) (m : Int), vs = [.ref s, .int m] ∧ Dw H s ∧ 0 < m ∧ m ≤ 1000000 ∧ ∀ x H', 0 ≤ x → x < m → Dw H' s → Off [s] H H' → Q (.int x) H'
def spNam : Sp := fun vs H Q _ => ∃ s : Addr, vs = [.ref s] ∧ Dw H s ∧ ∀ z H', nmOk (sL z) → Dw H' s → Off [s] H H' → Q (.str z) H'
def spTm : Nat → Sp
  | 0 => fun _ _ _ _ => False
  | n + 1 => fun vs H Q _ => ∃ (s nl : Addr) (zs : List Str) (room deep : Int), vs = [.ref s, .ref nl, .int room, .int deep] ∧ Dw H s ∧ H nl = some (.lst (zs.map V.str)) ∧ nl ≠ s ∧ zs.length = 3 ∧ (∀ z ∈ zs, nmOk (sL z)) ∧ 1 ≤ room ∧ room ≤ 30 ∧ 0 ≤ deep ∧ deep ≤ n ∧
    ∀ T p H', T.ok → PH H' T p → dep T ≤ n + 1 → (np T : Int) ≤ room → Dw H' s → Off [s] H H' → Q (.ref p) H'
def spTT : Nat → Sp
  | 0 => fun _ _ _ _ => False
  | n + 1 => fun vs H Q _ => ∃ (p : Addr) (T : PT), vs = [.ref p] ∧ PH H T p ∧ T.ok ∧ dep T ≤ n + 1 ∧ (shw T).length ≤ 400000 ∧ Q (.str (mkS (shw T))) H
def spAl : Nat → Sp
  | 0 => fun _ _ _ _ => False
  | n + 1 => fun vs H Q _ => ∃ x y : V, vs = [x, y] ∧ Al H (n + 1) x y ∧ ∀ H', Same H H' → Q (.bl true) H'
def spPart : Sp := fun vs H Q _ => ∃ z : Str, vs = [.str z] ∧ z.length ≤ 1000000 ∧ ∀ l H', Same H H' → H' l = some (.lst ((parts (sL z)).map fun x => V.str (mkS x))) → Q (.ref l) H'
def spRd : Nat → Sp
  | 0 => fun _ _ _ _ => False
  | n + 1 => fun vs H Q _ => ∃ z : Str, vs = [.str z] ∧ z.length ≤ 1000000 ∧ n ≤ 50 ∧ cnt (sL z) < n + 1 ∧ (readB (n + 1) (sL z) = none → ∀ H', Same H H' → Q .non H') ∧ ∀ T p H', readB (n + 1) (sL z) = some T → Same H H' → PH H' T p → Q (.ref p) H'
def spSign : Sp := fun vs H Q _ => ∃ s : Addr, vs = [.ref s] ∧ Dw H s ∧ ∀ z H', z.length = 1 → Dw H' s → Off [s] H H' → Q (.str z) H'
def spOth : Sp := fun vs H Q _ => ∃ (s : Addr) (z : Str), vs = [.ref s, .str z] ∧ Dw H s ∧ z.length ≤ 100000 ∧ ∀ z' H', z'.length ≤ 2 * z.length + 20 → Dw H' s → Off [s] H H' → Q (.str z') H'
def spTold : Sp := fun vs H Q _ => ∃ z : Str, vs = [.str z] ∧ z.length ≤ 400000 ∧ (∀ T p q H', isT z T → Same H H' → PH H' T p → H' q = some (.tup [.str "term", .ref p]) → Q (.ref q) H') ∧
  ((∀ T, ¬ isT z T) → ∀ q H', Same H H' → H' q = some (.tup [.str "refused", .bl true]) → Q (.ref q) H')
def spRight : Sp := fun vs H Q _ => ∃ z : Str, vs = [.str z] ∧ z.length ≤ 100000 ∧ cnt (sL z) < 11 ∧ ∀ H', Same H H' → Q (.bl true) H'
def spLawK (K : PySem.W.Frag) : Sp := fun vs H Q _ => ∃ (a : Addr) (ns : List Int), vs = [.ref a] ∧ SqL K H a (ns.map V.int) ∧ ns.length ≤ 63 ∧ ∀ H', Q (.bl true) H'
end Mine
namespace Mine
open PySem L2
def top (i : Nat) : Stmt := PySem.Challenge.pw_pairedthrows_k14_terms_as_texts.main.body.getD i (.Pass ⟨0, 0, 0, 0⟩)
abbrev sIsN : Stmt := top 14
abbrev sRdN : Stmt := top 17
abbrev sRdL : Stmt := top 18
abbrev sCls : Stmt := top 19
abbrev sTkl : Stmt := top 20
abbrev sTrO : Stmt := top 21
abbrev sRdT : Stmt := top 22
abbrev sShw : Stmt := top 24
abbrev sDraw : Stmt := top 26
abbrev sNam : Stmt := top 27
abbrev sTrm : Stmt := top 28
abbrev sTTx : Stmt := top 29
abbrev sAlk : Stmt := top 30
abbrev sPrd : Stmt := top 31
abbrev sWrR : Stmt := top 32
abbrev sRdd : Stmt := top 33
abbrev sSgn : Stmt := top 34
abbrev sOth : Stmt := top 35
abbrev sTold : Stmt := top 36
abbrev sRgt : Stmt := top 37
abbrev sLaw : Stmt := top 38
def inn (s : Stmt) : Stmt := match s with
  | .ClassDef _ _ _ b _ _ _ _ _ _ _ => b.getD 0 (.Pass ⟨0, 0, 0, 0⟩)
  | s => s
abbrev sIni : Stmt := inn (top 2)
end Mine
namespace Mine
open PySem L2
section
variable {P : Program} {w : World} {K : PySem.W.Frag} {mg : Str → Option Value} {base : Heap}
theorem nd_IsN1 : (["sign"] : List Str).Nodup := by decide +kernel
theorem scIsN : FnScope ["text"] ["text"] (defScope sIsN) := ⟨rfl, rfl, rfl, by decide +kernel, rfl, by decide +kernel, by decide +kernel⟩
theorem ok_IsN {f : Addr} {fd : FuncData} (F : Fun K "is_name" "is_name" sIsN f fd)
    {aw : Addr} {tL tN : Tok} (m_LETTERS : mg "LETTERS" = some (.str alpha tL)) (m_LONGEST_NAME : mg "LONGEST_NAME" = some (.int 8 tN)) (m_KEPT_WORDS : mg "KEPT_WORDS" = some (.ref aw)) (hW : ∀ H, SqT K H aw (taken.map V.str))
    (m_all : mg "all" = none) (m_len : mg "len" = none) :
    FnOk P w K mg base CX0 (1) f fd ["text"] spIsN := by
  refine F.ok scIsN (fun vs H Q E h => ?_) (fun cdv A outer s H vs Q E hr h => ?_)
  · obtain ⟨z, rfl, _⟩ := h
    rfl
  obtain ⟨z, rfl, hl, k⟩ := h
  have hu := hu_of hr
  refine ⟨_, (pss_cons (ps_if (pt_not (pt_post (pt_chain op_le op_le pe_int (pe_callB call_len_str (by rfl) m_len PySem.boot_len (pa_cons (pv 0) pa_nil)) (pe_glob (v := .int 8) (by rfl) m_LONGEST_NAME ⟨_, rfl⟩)))) (pss_one (ps_ret pe_bl)) pss_nil)
    (pss_one (ps_ret (pe_and (pe_cmpR op_notIn_seq (pv 0) (pe_glob (v := .ref aw) (by rfl) m_KEPT_WORDS rfl) rfl) (pe_one (pe_callB call_all (by rfl) m_all PyProof.Rows.boot_all (pa_cons (pe_comp ["sign"] [none] (pi_str (pv 0)) (fun _ _ _ _ => (pg_name (i := 0) (nd_IsN1) rfl (Or.inl rfl))) (fun _ _ _ _ => pf_nil) (fun _ _ _ _ => (pe_cmpR op_in_str (pv 0) (pe_glob (v := .str alpha) (by rfl) m_LETTERS ⟨_, rfl⟩) rfl))) pa_nil))))))), ?_⟩
  have hz : z.length ≤ sizeLine := Nat.le_of_lt (big4 (by omega))
  refine ⟨fun b G => G = H ∧ b = decide (1 ≤ z.length ∧ z.length ≤ 8), ?_, ?_⟩
  · refine ⟨_, rfl, _, rfl, hz, _, _, rfl, rfl, _, rfl, ?_⟩
    by_cases h1 : 1 ≤ z.length
    · refine iteP (decide_eq_true (by omega)) ⟨_, _, rfl, rfl, _, rfl, rfl, ?_⟩
      by_cases h2 : z.length ≤ 8
      · rw [decide_eq_true (show (z.length : Int) ≤ 8 by omega), decide_eq_true ⟨h1, h2⟩]
      · rw [decide_eq_false (show ¬ (z.length : Int) ≤ 8 by omega), decide_eq_false (fun q => h2 q.2)]
    · exact iteN (fun q => h1 (by have := of_decide_eq_true q; omega)) ⟨_, rfl, rfl, (decide_eq_false (fun q => h1 q.1)).symm⟩
  rintro b G ⟨rfl, rfl⟩
  by_cases c : 1 ≤ z.length ∧ z.length ≤ 8
  · rw [decide_eq_true c]
    refine iteN (by decide) ?_
    refine ⟨_, rfl, aw, _, rfl, .inr (hW G), rfl, flat_strs _, _, rfl, ?_⟩
    rw [notin_strs]
    by_cases c2 : z ∈ taken
    · rw [decide_eq_true c2]
      refine iteN (fun z => absurd z (show ¬ (!true) = true by decide)) ?_
      have e : decide (nmOk (sL z)) = false := decide_eq_false fun q => q.2.2.2 ((kept_iff z).mp c2)
      rw [e] at k
      exact k G (Same.refl _)
    · rw [decide_eq_false c2]
      refine iteP (show (!false) = true by decide) ?_
      refine ⟨_, rfl, z, rfl, comp_str (x := z) (fun i ys σ H2 => H2 = G ∧ (∃ v, σ = [v]) ∧ ys = ((sL z).take i).map fun c => V.bl (decide (97 ≤ c ∧ c ≤ 122))) (big4 (by omega)) ⟨rfl, ⟨_, rfl⟩, rfl⟩
        (by rintro i ys σ H2 ⟨_, _, e⟩; rw [e, List.length_map, List.length_take]; omega) ?_ ?_⟩
      · rintro i c ys σ H2 hc ⟨rfl, ⟨v, rfl⟩, rfl⟩
        refine ⟨_, rfl, _, _, rfl, rfl, rfl, ⟨_, rfl⟩, ?_⟩
        rw [take_map (f := fun c => V.bl (decide (97 ≤ c ∧ c ≤ 122))) (cps_at hc), in_one, decide_eq_decide.mpr (alpha_mem c)]
      · rintro ys σ H2 ⟨rfl, _, rfl⟩ l hl2
        have el : ((sL z).take z.length).map (fun c => V.bl (decide (97 ≤ c ∧ c ≤ 122))) = ((sL z).map fun c => decide (97 ≤ c ∧ c ≤ 122)).map V.bl := by
          rw [List.take_of_length_le (by rw [sL_len]; exact Nat.le_refl _), List.map_map]; rfl
        refine ⟨l, (sL z).map fun c => decide (97 ≤ c ∧ c ≤ 122), rfl, by rw [el]; exact SqL.of upd_same, ?_⟩
        rw [all_dec]
        have e : decide (∀ c ∈ sL z, 97 ≤ c ∧ c ≤ 122) = decide (nmOk (sL z)) := decide_eq_decide.mpr ⟨fun q => ⟨c.1, c.2, q, fun y => c2 ((kept_iff z).mpr y)⟩, fun q => q.2.2.1⟩
        rw [e]
        exact k _ (same_new hl2 _)
  · rw [decide_eq_false c]
    refine iteP (by decide) ?_
    have e : decide (nmOk (sL z)) = false := decide_eq_false fun q => c ⟨q.1, q.2.1⟩
    rw [e] at k
    exact k G (Same.refl _)
theorem nd_RdN1 : (["sign"] : List Str).Nodup := by decide +kernel
theorem scRdN : FnScope ["word", "low", "high", "number"] ["word", "low", "high"] (defScope sRdN) := ⟨rfl, rfl, rfl, by decide +kernel, rfl, by decide +kernel, by decide +kernel⟩
theorem ok_RdN {f : Addr} {fd : FuncData} (F : Fun K "read_number" "read_number" sRdN f fd)
    {tF : Tok} (m_FIGURES : mg "FIGURES" = some (.str figs tF))
    (m_int : mg "int" = none) (m_all : mg "all" = none) (m_len : mg "len" = none) (m_str : mg "str" = none) :
    FnOk P w K mg base CX0 (1) f fd ["word", "low", "high"] spRdN := by
  refine F.ok scRdN (fun vs H Q E h => ?_) (fun cdv A outer s H vs Q E hr h => ?_)
  · obtain ⟨z, rfl, _⟩ := h
    rfl
  obtain ⟨z, rfl, hl, k⟩ := h
  have hu := hu_of hr
  refine ⟨_, (pss_cons (ps_if (pt_not (pt_post (pt_chain op_le op_le pe_int (pe_callB call_len_str (by rfl) m_len PySem.boot_len (pa_cons (pv 0) pa_nil)) (pe_callB call_len_str (by rfl) m_len PySem.boot_len (pa_cons (pe_callTy call_str1 (by rfl) m_str PyProof.Rows.boot_str (pa_cons (pv 2) pa_nil)) pa_nil))))) (pss_one (ps_ret pe_non)) pss_nil)
    (pss_cons (ps_if (pt_not (pt_val (pe_callB call_all (by rfl) m_all PyProof.Rows.boot_all (pa_cons (pe_comp ["sign"] [none] (pi_str (pv 0)) (fun _ _ _ _ => (pg_name (i := 0) (nd_RdN1) rfl (Or.inl rfl))) (fun _ _ _ _ => pf_nil) (fun _ _ _ _ => (pe_cmpR op_in_str (pv 0) (pe_glob (v := .str figs) (by rfl) m_FIGURES ⟨_, rfl⟩) rfl))) pa_nil)))) (pss_one (ps_ret pe_non)) pss_nil)
    (pss_cons (ps_if (pt_post (PW.pt (pw_and (pt_cmpR op_eq (pe_ix ix_str (pv 0) pe_int (fun _ _ => rfl)) pe_str (nomark _)) (pw_and1 (pt_cmpR op_gt (pe_callB call_len_str (by rfl) m_len PySem.boot_len (pa_cons (pv 0) pa_nil)) pe_int (nomark _)))))) (pss_one (ps_ret pe_non)) pss_nil)
    (pss_cons (ps_set (i := 3) scRdN.nd rfl (Or.inl rfl) (pe_callTy call_intS (by rfl) m_int PyProof.Rows.boot_int (pa_cons (pv 0) pa_nil)))
    (pss_one (ps_ret (pe_ifExp (pt_post (pt_chain op_le op_le (pv 1) (pv 3) (pv 2))) (pv 3) pe_non))))))), ?_⟩
  have hz : z.length ≤ sizeLine := Nat.le_of_lt (big4 (by omega))
  refine ⟨fun b G => G = H ∧ b = decide (1 ≤ z.length ∧ z.length ≤ 3), ?_, ?_⟩
  · refine ⟨_, rfl, _, rfl, hz, _, _, rfl, rfl, _, rfl, ?_⟩
    have e9 : ((toString (999 : Int) : String) : Str).length = 3 := by decide +kernel
    by_cases h1 : 1 ≤ z.length
    · refine iteP (decide_eq_true (by omega)) ⟨_, rfl, .inl ⟨999, rfl, by decide +kernel, _, rfl, by rw [e9]; decide, _, _, rfl, rfl, _, rfl, rfl, ?_⟩⟩
      rw [e9]
      by_cases h2 : z.length ≤ 3
      · rw [decide_eq_true (show (z.length : Int) ≤ (3 : Nat) by omega), decide_eq_true ⟨h1, h2⟩]
      · rw [decide_eq_false (show ¬ (z.length : Int) ≤ (3 : Nat) by omega), decide_eq_false (fun q => h2 q.2)]
    · exact iteN (fun q => h1 (by have := of_decide_eq_true q; omega)) ⟨_, rfl, rfl, (decide_eq_false (fun q => h1 q.1)).symm⟩
  have kn : ∀ G, Same H G → numOf (sL z) = none → Q .non G := fun G s e => by have := k G s; rw [e] at this; exact this
  rintro b G ⟨rfl, rfl⟩
  by_cases c : 1 ≤ z.length ∧ z.length ≤ 3
  · rw [decide_eq_true c]
    refine iteN (by decide) ?_
    refine ⟨_, rfl, z, rfl, comp_str (x := z) (fun i ys σ H2 => H2 = G ∧ (∃ v, σ = [v]) ∧ ys = ((sL z).take i).map fun c => V.bl (decide (isD c))) (big4 (by omega)) ⟨rfl, ⟨_, rfl⟩, rfl⟩
      (by rintro i ys σ H2 ⟨_, _, e⟩; rw [e, List.length_map, List.length_take]; omega) ?_ ?_⟩
    · rintro i c ys σ H2 hc ⟨rfl, ⟨v, rfl⟩, rfl⟩
      refine ⟨_, rfl, _, _, rfl, rfl, rfl, ⟨_, rfl⟩, ?_⟩
      rw [take_map (f := fun c => V.bl (decide (isD c))) (cps_at hc), in_one, decide_eq_decide.mpr (figs_mem c)]
    rintro ys σ H2 ⟨rfl, _, rfl⟩ l hl2
    have el : ((sL z).take z.length).map (fun c => V.bl (decide (isD c))) = ((sL z).map fun c => decide (isD c)).map V.bl := by
      rw [List.take_of_length_le (by rw [sL_len]; exact Nat.le_refl _), List.map_map]; rfl
    refine ⟨l, (sL z).map fun c => decide (isD c), rfl, by rw [el]; exact SqL.of upd_same, _, rfl, ?_⟩
    rw [all_dec]
    have s1 := same_new hl2 (.lst (((sL z).take z.length).map fun c => V.bl (decide (isD c))))
    generalize upd H2 l (.lst (((sL z).take z.length).map fun c => V.bl (decide (isD c)))) = H3 at s1 ⊢
    by_cases d : ∀ c ∈ sL z, isD c
    · rw [decide_eq_true d]
      refine iteN (by decide) ?_
      refine ⟨fun b G => G = H3 ∧ b = decide ((sL z).head? = some 48 ∧ 1 < z.length), ?_, ?_⟩
      · obtain ⟨y, r, ey⟩ : ∃ y r, sL z = y :: r := by
          cases q : sL z with
          | nil => have := c.1; rw [← sL_len, q] at this; simp at this
          | cons y r => exact ⟨y, r, rfl⟩
        refine ⟨_, rfl, _, _, y, rfl, rfl, hz, by rw [show z.cps.toList = y :: r from ey]; exact at0N, rfl, _, rfl, ?_⟩
        by_cases e : y = 48
        · refine iteP (by rw [e]; decide +kernel) ⟨_, rfl, _, rfl, hz, _, _, rfl, rfl, _, rfl, rfl, ?_⟩
          refine decide_eq_decide.mpr ⟨fun q => ⟨by rw [ey, e]; rfl, by omega⟩, fun q => by have := q.2; omega⟩
        · refine iteN (fun q => e ?_) ⟨rfl, (decide_eq_false fun q => e ?_).symm⟩
          · have q := of_decide_eq_true q
            injection q with q
            have := congrArg sL q
            exact (List.cons.inj this).1
          · rw [ey] at q; exact Option.some.inj q.1
      rintro b G ⟨rfl, rfl⟩
      by_cases e : (sL z).head? = some 48 ∧ 1 < z.length
      · rw [decide_eq_true e]
        refine iteP (by decide) ?_
        exact kn _ s1 (by
          cases q : numOf (sL z) with
          | none => rfl
          | some n => exact absurd e (numOf_len q).2.2.2)
      · rw [decide_eq_false e]
        refine iteN (by decide) ?_
        obtain ⟨n, h1, h2, h3⟩ := numOf_of c.1 c.2 d e
        have it : intText? z = some ((n : Nat) : Int) := by rw [h2]; exact intText_digits d (fun q => by have := c.1; rw [← sL_len, show sL z = [] from q] at this; simp at this) (by omega)
        refine ⟨_, rfl, .inl ⟨z, n, rfl, it, by omega, ?_⟩⟩
        have kk := k G s1
        rw [h1] at kk
        refine ⟨fun b G' => G' = G ∧ b = true, ?_, ?_⟩
        · refine ⟨_, rfl, _, rfl, _, _, rfl, rfl, _, rfl, iteP (decide_eq_true (by omega)) ⟨_, rfl, _, _, rfl, rfl, _, rfl, rfl, decide_eq_true (by omega)⟩⟩
        · rintro b G' ⟨rfl, rfl⟩
          exact iteP rfl ⟨_, rfl, kk⟩
    · rw [decide_eq_false d]
      refine iteP (by decide) ?_
      exact kn _ s1 (by
        cases q : numOf (sL z) with
        | none => rfl
        | some n => exact absurd (numOf_len q).2.2.1 d)
  · rw [decide_eq_false c]
    refine iteP (by decide) ?_
    exact kn _ (Same.refl _) (by
      cases q : numOf (sL z) with
      | none => rfl
      | some n => exact absurd ⟨(numOf_len q).1, (numOf_len q).2.1⟩ c)
theorem scRdL : FnScope ["word", "number"] ["word"] (defScope sRdL) := ⟨rfl, rfl, rfl, by decide +kernel, rfl, by decide +kernel, by decide +kernel⟩
theorem ok_RdL {f : Addr} {fd : FuncData} (F : Fun K "read_leaf" "read_leaf" sRdL f fd)
    {f_IsN : Addr} {d_IsN : FuncData} (G_IsN : FnOk P w K mg base CX0 (1) f_IsN d_IsN ["text"] spIsN) (b_IsN : Binds K d_IsN ["text"] []) (k_IsN : PySem.W.keepIn K (.ref f_IsN) = true) (m_IsN : mg "is_name" = some (.ref f_IsN))
    {f_RdN : Addr} {d_RdN : FuncData} (G_RdN : FnOk P w K mg base CX0 (1) f_RdN d_RdN ["word", "low", "high"] spRdN) (b_RdN : Binds K d_RdN ["word", "low", "high"] []) (k_RdN : PySem.W.keepIn K (.ref f_RdN) = true) (m_RdN : mg "read_number" = some (.ref f_RdN))
     :
    FnOk P w K mg base CX0 (2) f fd ["word"] spLeaf := by
  refine F.ok scRdL (fun vs H Q E h => ?_) (fun cdv A outer s H vs Q E hr h => ?_)
  · obtain ⟨z, rfl, _⟩ := h
    rfl
  obtain ⟨z, rfl, hl, k1, k2⟩ := h
  have hu := hu_of hr
  have hr1 : Room 1 _ := hr.mono (by decide)
  refine ⟨_, (pss_cons (ps_if (pt_val (pe_call G_IsN hr1 (by rfl) m_IsN k_IsN b_IsN .nil pass0 (pa_cons (pv 0) pa_nil))) (pss_one (ps_ret (pe_tup (pa_cons pe_str (pa_cons (pv 0) pa_nil))))) pss_nil)
    (pss_cons (ps_set (i := 1) scRdL.nd rfl (Or.inl rfl) (pe_call G_RdN hr1 (by rfl) m_RdN k_RdN b_RdN .nil pass0 (pa_cons (pv 0) (pa_cons pe_int (pa_cons pe_int pa_nil)))))
    (pss_one (ps_ret (pe_ifExp (pt_cmp (pc_isN (pv 1))) pe_non (pe_tup (pa_cons pe_str (pa_cons (pv 1) pa_nil)))))))), ?_⟩
  refine ⟨_, rfl, z, rfl, hl, fun H1 s1 => ⟨_, rfl, ?_⟩⟩
  by_cases c : nmOk (sL z)
  · rw [decide_eq_true c]
    refine iteP rfl ⟨_, rfl, by show 2 ≤ sizeLine; decide, fun p hp => ?_⟩
    refine k2 (.nam (sL z)) p _ (if_pos c) (s1.trans (same_new hp _)) ?_
    show upd H1 p _ p = some (.tup [.str "name", .str (mkS (sL z))])
    rw [mk_sL]
    exact upd_same
  · rw [decide_eq_false c]
    refine iteN (by decide) ?_
    refine ⟨_, rfl, z, rfl, hl, fun H2 s2 => ⟨_, rfl, _, rfl, ?_⟩⟩
    cases q : numOf (sL z) with
    | none => exact iteP (by decide) (k1 (by unfold leaf; rw [if_neg c, q]; rfl) _ (s1.trans s2))
    | some n => exact iteN (fun z => by have z := of_decide_eq_true z; cases z) ⟨_, rfl, by show 2 ≤ sizeLine; decide, fun p hp => k2 (.num n) p _ (by unfold leaf; rw [if_neg c, q]; rfl) (s1.trans (s2.trans (same_new hp _))) upd_same⟩
end
end Mine
namespace Mine
open PySem L2
section
variable {P : Program} {w : World} {K : PySem.W.Frag} {mg : Str → Option Value} {base : Heap}
theorem scCls : FnScope ["levels", "level"] ["levels"] (defScope sCls) := ⟨rfl, rfl, rfl, by decide +kernel, rfl, by decide +kernel, by decide +kernel⟩
theorem ok_Cls {f : Addr} {fd : FuncData} (F : Fun K "close_bracket" "close_bracket" sCls f fd)
    (m_len : mg "len" = none) :
    FnOk P w K mg base CX0 (1) f fd ["levels"] spClose := by
  refine F.ok scCls (fun vs H Q E h => ?_) (fun cdv A outer s H vs Q E hr h => ?_)
  · obtain ⟨lv, a, as, st, rfl, _⟩ := h
    rfl
  obtain ⟨lv, a, as, st, rfl, L0, hs, k1, k2⟩ := h
  have hu := hu_of hr
  refine ⟨_, (pss_cons (ps_if (pt_post (PW.pt (pw_or (pt_cmpR op_eq (pe_callB call_len_seq (by rfl) m_len PySem.boot_len (pa_cons (pv 0) pa_nil)) pe_int (nomark _)) (pw_or1 (pt_cmpR op_ne (pe_callB call_len_seq (by rfl) m_len PySem.boot_len (pa_cons (pe_ix ix_list (pv 0) (pe_un un_neg pe_int) (fun _ _ => rfl)) pa_nil)) pe_int (nomark _)))))) (pss_one (ps_ret pe_bl)) pss_nil)
    (pss_cons (ps_set (i := 1) scCls.nd rfl (Or.inl rfl) (pe_bm0 PySem.F.plainAttrs_list PySem.F.slot_list_pop PySem.F.type_list_pop mt_pop (pv 0)))
    (pss_cons (ps_expr (pe_bm PySem.F.plainAttrs_list PySem.F.slot_list_append PySem.F.type_list_append mt_append (pe_ix ix_list (pv 0) (pe_un un_neg pe_int) (fun _ _ => rfl)) (pa_cons (pe_tup (pa_cons pe_str (pa_cons (pe_ix ix_list (pv 1) pe_int (fun _ _ => rfl)) (pa_cons (pe_ix ix_list (pv 1) pe_int (fun _ _ => rfl)) (pa_cons (pe_ix ix_list (pv 1) pe_int (fun _ _ => rfl)) pa_nil))))) pa_nil)))
    (pss_one (ps_ret pe_bl))))), ?_⟩
  obtain ⟨vs, hv⟩ := L0.topl
  have vl := L0.len hv
  have al := L0.alen
  refine ⟨fun b G => G = H ∧ (b = true → st.close = none) ∧ (b = false → ∃ x r s t1 t2 ru bs, as = x :: r ∧ st = ⟨bs, (s, [t1, t2]) :: ru⟩), ?_, ?_⟩
  · refine ⟨_, rfl, lv, _, rfl, .inl (SqL.of L0.top), rfl, _, rfl, ?_⟩
    obtain ⟨bs, us⟩ := st
    cases as with
    | nil =>
      cases us with
      | cons _ _ => exact L0.u.elim
      | nil => exact iteP (decide_eq_true rfl) ⟨rfl, (fun _ => rfl), fun z => nomatch z⟩
    | cons x r =>
      cases us with
      | nil => exact L0.u.elim
      | cons el ru =>
        obtain ⟨s, l⟩ := el
        obtain ⟨⟨y, ws, w1, w2, w3⟩, w4⟩ := L0.u
        cases w1
        have w5 := w3.length
        refine iteN (fun z => ?_) ?_
        · have z := of_decide_eq_true z
          injection z with z
          simp at z
          omega
        · refine ⟨_, rfl, _, rfl, lv, _, _, .ref x, rfl, rfl, SqL.of L0.top, top_at a (x :: r), x, _, rfl, .inl (SqL.of w2), rfl, _, rfl, rfl, fun z => ?_, fun z => ?_⟩
          · have z : (V.str ⟨#[s]⟩ :: ws).length ≠ 3 := fun q => by
              have e : decide (V.int (((V.str ⟨#[s]⟩ :: ws).length : Nat) : Int) = V.int 3) = true := decide_eq_true (by rw [q]; rfl)
              have z : (!decide (V.int (((V.str ⟨#[s]⟩ :: ws).length : Nat) : Int) = V.int 3)) = true := z
              rw [e] at z
              exact absurd z (by decide)
            rw [List.length_cons, w5] at z
            rcases l with _ | ⟨t1, _ | ⟨t2, _ | ⟨t3, l⟩⟩⟩
            · rfl
            · rfl
            · exact absurd rfl z
            · rfl
          · have z : (V.str ⟨#[s]⟩ :: ws).length = 3 := by
              apply Classical.byContradiction
              intro q
              have e : decide (V.int (((V.str ⟨#[s]⟩ :: ws).length : Nat) : Int) = V.int 3) = false := decide_eq_false fun h => q (by injection h with h; omega)
              have z : (!decide (V.int (((V.str ⟨#[s]⟩ :: ws).length : Nat) : Int) = V.int 3)) = false := z
              rw [e] at z
              exact absurd z (by decide)
            rw [List.length_cons, w5] at z
            rcases l with _ | ⟨t1, _ | ⟨t2, _ | ⟨t3, l⟩⟩⟩
            · cases z
            · cases z
            · exact ⟨x, r, s, t1, t2, ru, bs, rfl, rfl⟩
            · exact absurd z (by simp)
  rintro b G ⟨rfl, h1, h2⟩
  cases b with
  | true => exact iteP rfl (k1 (h1 rfl))
  | false =>
    refine iteN (by simp) ?_
    obtain ⟨x, r, s, t1, t2, ru, bs, rfl, rfl⟩ := h2 rfl
    obtain ⟨⟨y, ws, w1, w2, w3⟩, w4⟩ := L0.u
    cases w1
    obtain ⟨_, _, rfl, ⟨p1, rfl, ph1⟩, ⟨p2, rfl, ph2⟩⟩ := two2 w3
    have et : (a :: (x :: r).reverse).map V.ref = (a :: r.reverse).map V.ref ++ [V.ref x] := by simp
    have L1 := L0.pop
    have tp0 := L0.top
    rw [et] at tp0
    refine ⟨_, rfl, .inl ⟨rfl, _, SqL.of tp0⟩, lv, _, V.ref x, rfl, rfl, tp0, by simp, ?_⟩
    rw [List.dropLast_concat]
    have nd := (List.nodup_cons.mp L0.nd).1
    have nxl : x ≠ lv := fun z => nd (by rw [← z]; simp)
    have w2' : upd G lv (.lst ((a :: r.reverse).map V.ref)) x = _ := (upd_ne nxl).trans w2
    have o1 : Off (lv :: a :: x :: r) G (upd G lv (.lst ((a :: r.reverse).map V.ref))) := Off.upd1 List.mem_cons_self
    have ts1 := TS.lst (ys := (a :: r.reverse).map V.ref) L0.top
    replace ph1 := ph1.ts ts1
    replace ph2 := ph2.ts ts1
    generalize upd G lv (.lst ((a :: r.reverse).map V.ref)) = G1 at L1 w2' o1 ph1 ph2 ⊢
    obtain ⟨us, hu⟩ := L1.topl
    have ul := L1.len hu
    refine ⟨_, rfl, _, rfl, lv, _, _, .ref (tp a r), rfl, rfl, SqL.of L1.top, top_at a r, .inl ⟨rfl, _, SqL.of hu⟩, _, rfl, x, _, _, .str ⟨#[s]⟩, rfl, rfl, SqL.of w2', rfl, _, rfl, x, _, _, .ref p1, rfl, rfl, SqL.of w2', rfl, _, rfl, x, _, _, .ref p2, rfl, rfl, SqL.of w2', rfl, by show 4 ≤ sizeLine; decide, fun q hq => ?_⟩
    have s2 := same_new hq (.tup [.str "op", .str ⟨#[s]⟩, .ref p1, .ref p2])
    have L2 := L1.same s2
    have ph : PH (upd G1 q (.tup [.str "op", .str ⟨#[s]⟩, .ref p1, .ref p2])) (.op s t1 t2) q := ⟨p1, p2, upd_same, ph1.ts (.of s2), ph2.ts (.of s2)⟩
    have hu2 := s2 _ _ hu
    generalize upd G1 q (.tup [.str "op", .str ⟨#[s]⟩, .ref p1, .ref p2]) = G2 at s2 L2 ph hu2 ⊢
    have sz2 : (⟨bs, ru⟩ : Sta).sz ≤ 2000000 := by simp [Sta.sz] at hs ⊢; omega
    refine ⟨tp a r, _, _, rfl, rfl, hu2, big4 (by omega), ?_⟩
    have L3 := L2.push ph hu2
    refine k2 r _ _ rfl L3 (o1.trans ((Off.of s2).trans (Off.upd1 ?_))) fun b hb => List.mem_cons_of_mem _ hb
    rcases List.mem_cons.mp (tp_mem a r) with z | z
    · rw [z]; simp
    · exact List.mem_cons_of_mem _ (List.mem_cons_of_mem _ (List.mem_cons_of_mem _ z))
theorem scTkl : FnScope ["levels", "word", "bare", "leaf", "bracket"] ["levels", "word"] (defScope sTkl) := ⟨rfl, rfl, rfl, by decide +kernel, rfl, by decide +kernel, by decide +kernel⟩
theorem ok_Tkl {f : Addr} {fd : FuncData} (F : Fun K "take_leaf" "take_leaf" sTkl f fd)
    {f_RdL : Addr} {d_RdL : FuncData} (G_RdL : FnOk P w K mg base CX0 (2) f_RdL d_RdL ["word"] spLeaf) (b_RdL : Binds K d_RdL ["word"] []) (k_RdL : PySem.W.keepIn K (.ref f_RdL) = true) (m_RdL : mg "read_leaf" = some (.ref f_RdL))
    {f_Cls : Addr} {d_Cls : FuncData} (G_Cls : FnOk P w K mg base CX0 (1) f_Cls d_Cls ["levels"] spClose) (b_Cls : Binds K d_Cls ["levels"] []) (k_Cls : PySem.W.keepIn K (.ref f_Cls) = true) (m_Cls : mg "close_bracket" = some (.ref f_Cls))
    (m_range : mg "range" = none) (m_len : mg "len" = none) :
    FnOk P w K mg base CX0 (3) f fd ["levels", "word"] spTake := by
  refine F.ok scTkl (fun vs H Q E h => ?_) (fun cdv A outer s H vs Q E hr h => ?_)
  · obtain ⟨lv, a, as, st, z, rfl, _⟩ := h
    rfl
  obtain ⟨lv, a, as, st, z, rfl, L0, hs, hl, k1, k2⟩ := h
  have hu := hu_of hr
  have hr1 : Room 1 _ := hr.mono (by decide)
  have hr2 : Room 2 _ := hr.mono (by decide)
  refine ⟨_, (pss_cons (ps_set (i := 2) scTkl.nd rfl (Or.inl rfl) (pe_bm PySem.F.plainAttrs_str PySem.F.slot_str_rstrip PySem.F.type_str_rstrip mt_rstrip (pv 1) (pa_cons pe_str pa_nil)))
    (pss_cons (ps_set (i := 3) scTkl.nd rfl (Or.inl rfl) (pe_call G_RdL hr2 (by rfl) m_RdL k_RdL b_RdL .nil pass0 (pa_cons (pv 2) pa_nil)))
    (pss_cons (ps_if (pt_cmp (pc_isN (pv 3))) (pss_one (ps_ret pe_bl)) pss_nil)
    (pss_cons (ps_expr (pe_bm PySem.F.plainAttrs_list PySem.F.slot_list_append PySem.F.type_list_append mt_append (pe_ix ix_list (pv 0) (pe_un un_neg pe_int) (fun _ _ => rfl)) (pa_cons (pv 3) pa_nil)))
    (pss_cons (ps_for PassesOwn.never rfl (pi_range1 (by rfl) m_range (pa_cons (pe_op op_sub (pe_callB call_len_str (by rfl) m_len PySem.boot_len (pa_cons (pv 1) pa_nil)) (pe_callB call_len_str (by rfl) m_len PySem.boot_len (pa_cons (pv 2) pa_nil))) pa_nil)) (pg_name (i := 4) scTkl.nd rfl (Or.inl rfl))
    (pss_one (ps_if (pt_not (pt_val (pe_call G_Cls hr1 (by rfl) m_Cls k_Cls b_Cls .nil pass0 (pa_cons (pv 0) pa_nil)))) (pss_one (ps_ret pe_bl)) pss_nil)))
    (pss_one (ps_ret pe_bl))))))), ?_⟩
  have hz : z.length ≤ sizeLine := Nat.le_of_lt (big4 (by omega))
  refine ⟨_, rfl, rfl, z, _, rfl, rfl, hz, ?_⟩
  have e41 : (")" : Str) = ⟨#[41]⟩ := by decide +kernel
  have eb := rstrip_rs z
  rw [← e41] at eb
  have bl : (rs (sL z)).length ≤ (sL z).length := by
    have := congrArg List.length (rs_split (sL z))
    rw [List.length_append] at this
    omega
  rw [sL_len] at bl
  generalize Txt.rstripChars z ")" = bz at eb ⊢
  have bz' : bz.length = (rs (sL z)).length := by rw [← eb]; rfl
  have hbz : bz.length ≤ sizeLine := by omega
  refine ⟨_, rfl, bz, rfl, by omega, fun e1 H1 s1 => ?_, fun T p H1 e1 s1 ph => ?_⟩
  · refine ⟨_, rfl, _, rfl, iteP (decide_eq_true rfl) ?_⟩
    rw [eb] at e1
    exact k1 _ (by rw [e1]; rfl) (Off.of s1)
  rw [eb] at e1
  rw [e1] at k1 k2
  replace k1 : ∀ H', Sta.closeN ((sL z).length - (rs (sL z)).length) (st.push T) = none → Off (lv :: a :: as) H H' → Q (.bl false) H' := k1
  replace k2 : ∀ as' st' H', Sta.closeN ((sL z).length - (rs (sL z)).length) (st.push T) = some st' → Lv H' lv a as' st' → Off (lv :: a :: as) H H' → (∀ b ∈ as', b ∈ as) → Q (.bl true) H' := k2
  have L1 := L0.same s1
  obtain ⟨us, hu⟩ := L1.topl
  have ul := L1.len hu
  refine ⟨_, rfl, _, rfl, iteN (fun q => by have q := of_decide_eq_true q; cases q) ?_⟩
  refine ⟨_, rfl, _, rfl, lv, _, _, .ref (tp a as), rfl, rfl, SqL.of L1.top, top_at a as, .inl ⟨rfl, _, SqL.of hu⟩, _, rfl, tp a as, _, _, rfl, rfl, hu, big4 (by omega), ?_⟩
  have L2 := L1.push ph hu
  have o2 : Off (lv :: a :: as) H (upd H1 (tp a as) (.lst (us ++ [.ref p]))) := (Off.of s1).trans (Off.upd1 (List.mem_cons_of_mem _ (tp_mem a as)))
  generalize upd H1 (tp a as) (.lst (us ++ [.ref p])) = H2 at L2 o2 ⊢
  have pz := push_sz T st
  generalize st.push T = st1 at L2 k1 k2 pz ⊢
  refine ⟨_, rfl, _, rfl, hz, _, rfl, _, rfl, hbz, _, _, rfl, rfl, _, rfl, by omega, by omega, for_range (n := ((z.length : Int) - (bz.length : Int)).toNat) (fun i σ G => ∃ (as' : List Addr) (st' : Sta) (v4 : Option V), σ = [some (.ref lv), some (.str z), some (.str bz), some (.ref p), v4] ∧ Lv G lv a as' st' ∧ Off (lv :: a :: as) H G ∧ (∀ b ∈ as', b ∈ as) ∧ Sta.closeN i st1 = some st' ∧ st'.sz ≤ 1000001)
    ⟨as, st1, _, rfl, L2, o2, fun _ h => h, rfl, by omega⟩ ?_ ?_⟩
  · rintro i σ G hi ⟨as', st', v4, rfl, L3, o3, sub, hc, sz⟩
    have hn : i + 1 ≤ (sL z).length - (rs (sL z)).length := by rw [sL_len]; omega
    refine ⟨_, rfl, lv, a, as', st', rfl, L3, by omega, fun e2 => ⟨_, rfl, iteP (by decide) ?_⟩, fun as2 st2 H4 e2 L4 o4 sub2 => ⟨_, rfl, iteN (by decide) ?_⟩⟩
    · refine k1 _ ?_ o3
      rw [show (sL z).length - (rs (sL z)).length = i + (1 + ((sL z).length - (rs (sL z)).length - (i + 1))) from by omega, closeN_add, hc]
      show Sta.closeN (1 + _) st' = none
      rw [closeN_add]
      show ((st'.close).bind fun s => Sta.closeN 0 s).bind _ = none
      rw [e2]
      rfl
    · have cs := close_sz e2
      refine ⟨as2, st2, _, rfl, L4, o3.trans (o4.mono fun b hb => ?_), fun b hb => sub b (sub2 b hb), ?_, by omega⟩
      · rcases List.mem_cons.mp hb with q | q
        · rw [q]; exact List.mem_cons_self
        · rcases List.mem_cons.mp q with q | q
          · rw [q]; exact List.mem_cons_of_mem _ List.mem_cons_self
          · exact List.mem_cons_of_mem _ (List.mem_cons_of_mem _ (sub b q))
      · rw [closeN_add, hc]
        show (st'.close).bind (fun s => Sta.closeN 0 s) = some st2
        rw [e2]
        rfl
  · rintro σ G ⟨as', st', v4, rfl, L3, o3, sub, hc, sz⟩
    refine k2 as' st' G ?_ L3 o3 sub
    rw [← hc]
    congr 1
    rw [sL_len]
    omega
end
end Mine
namespace Mine
open PySem L2
section
variable {P : Program} {w : World} {K : PySem.W.Frag} {mg : Str → Option Value} {base : Heap}
theorem scIni : FnScope ["self", "row"] ["self", "row"] (defScope sIni) := ⟨rfl, rfl, rfl, by decide +kernel, rfl, by decide +kernel, by decide +kernel⟩
theorem ok_Ini {f C D : Addr} {fd : FuncData} (F : Fun K "__init__" "NoText.__init__" sIni f fd) (W : XOver K C D) (n0 : NoAttr K C "row") : FnOk P w K mg base CX0 1 f fd ["self", "row"] (spInit C) := by
  refine F.ok scIni (fun vs H Q E h => ?_) (fun cdv A outer s H vs Q E hr h => ?_)
  · obtain ⟨x, y, rfl, _⟩ := h
    rfl
  obtain ⟨x, y, rfl, hx, k⟩ := h
  refine ⟨_, (pss_one (ps_xfld1 (pv 0) (pv 1) rfl)), ?_⟩
  exact ⟨_, rfl, _, rfl, x, C, D, rfl, W, n0, hx, fun dx hd => k dx hd⟩
theorem scTrO : FnScope ["words", "levels", "word"] ["words"] (defScope sTrO) := ⟨rfl, rfl, rfl, by decide +kernel, rfl, by decide +kernel, by decide +kernel⟩
theorem ok_TrO {f : Addr} {fd : FuncData} (F : Fun K "term_of" "term_of" sTrO f fd)
    {cS : Addr} (m_SIGNS : mg "SIGNS" = some (.ref cS)) (hS : ∀ H, SqT K H cS ((["+", "-", "*", "<", "="] : List Str).map V.str))
    {f_Tkl : Addr} {d_Tkl : FuncData} (G_Tkl : FnOk P w K mg base CX0 (3) f_Tkl d_Tkl ["levels", "word"] spTake) (b_Tkl : Binds K d_Tkl ["levels", "word"] []) (k_Tkl : PySem.W.keepIn K (.ref f_Tkl) = true) (m_Tkl : mg "take_leaf" = some (.ref f_Tkl))
    (m_len : mg "len" = none) :
    FnOk P w K mg base CX0 (4) f fd ["words"] spTermOf := by
  refine F.ok scTrO (fun vs H Q E h => ?_) (fun cdv A outer s H vs Q E hr h => ?_)
  · obtain ⟨wl, ws, rfl, _⟩ := h
    rfl
  obtain ⟨wl, ws, rfl, hw, hn, hb, k1, k2⟩ := h
  have hu := hu_of hr
  have hr1 : Room 1 _ := hr.mono (by decide)
  have hr3 : Room 3 _ := hr.mono (by decide)
  refine ⟨_, (pss_cons (ps_set (i := 1) scTrO.nd rfl (Or.inl rfl) (pe_lst (pa_cons (pe_lst pa_nil) pa_nil)))
    (pss_cons (ps_for PassesOwn.never rfl (pi_list (pv 0)) (pg_name (i := 2) scTrO.nd rfl (Or.inl rfl))
    (pss_one (ps_if (pt_val (pe_bm PySem.F.plainAttrs_str PySem.F.slot_str_startswith PySem.F.type_str_startswith mt_startswith (pv 2) (pa_cons pe_str pa_nil))) (pss_cons (ps_if (pt_cmpR op_notIn_seq (pe_slice sl_str (pv 2) (po_some pe_int) po_none) (pe_glob (v := .ref cS) (by rfl) m_SIGNS rfl) rfl) (pss_one (ps_ret pe_non)) pss_nil)
    (pss_one (ps_expr (pe_bm PySem.F.plainAttrs_list PySem.F.slot_list_append PySem.F.type_list_append mt_append (pv 1) (pa_cons (pe_lst (pa_cons (pe_slice sl_str (pv 2) (po_some pe_int) po_none) pa_nil)) pa_nil))))) (pss_one (ps_if (pt_not (pt_val (pe_call G_Tkl hr3 (by rfl) m_Tkl k_Tkl b_Tkl .nil pass0 (pa_cons (pv 1) (pa_cons (pv 2) pa_nil))))) (pss_one (ps_ret pe_non)) pss_nil)))))
    (pss_cons (ps_if (pt_post (PW.pt (pw_or (pt_cmpR op_ne (pe_callB call_len_seq (by rfl) m_len PySem.boot_len (pa_cons (pv 1) pa_nil)) pe_int (nomark _)) (pw_or1 (pt_cmpR op_ne (pe_callB call_len_seq (by rfl) m_len PySem.boot_len (pa_cons (pe_ix ix_list (pv 1) pe_int (fun _ _ => rfl)) pa_nil)) pe_int (nomark _)))))) (pss_one (ps_ret pe_non)) pss_nil)
    (pss_one (ps_ret (pe_ix ix_list (pe_ix ix_list (pv 1) pe_int (fun _ _ => rfl)) pe_int (fun _ _ => rfl))))))), ?_⟩
  refine ⟨Nat.zero_le _, fun a ha => ⟨by show 1 ≤ sizeLine; decide, fun lv hlv => ?_⟩⟩
  have s1 := same_new ha (.lst [])
  have a1 : upd H a (.lst []) a = some (.lst []) := upd_same
  generalize upd H a (.lst []) = H1 at s1 a1 hlv ⊢
  have fl : H lv = none := s1.free hlv
  have nal : a ≠ lv := ne_of_none a1 hlv
  have s2 := s1.trans (same_new hlv (.lst [.ref a]))
  have L2 : Lv (upd H1 lv (.lst [.ref a])) lv a [] ⟨[], []⟩ := ⟨upd_same, ⟨[], (upd_ne nal).trans a1, trivial⟩, trivial, by simp [nal.symm]⟩
  generalize upd H1 lv (.lst [.ref a]) = H2 at s2 L2 ⊢
  have keep : ∀ {G G' : Hp} {as : List Addr}, Same H G → (∀ x ∈ as, H x = none) → Off (lv :: a :: as) G G' → Same H G' := fun sg fr o b u e => o b u (sg b u e) fun m => by
    rcases List.mem_cons.mp m with q | q
    · rw [q, fl] at e; cases e
    · rcases List.mem_cons.mp q with q | q
      · rw [q, ha] at e; cases e
      · rw [fr b q] at e; cases e
  refine ⟨_, rfl, wl, rfl, ⟨_, SqL.of (s2 _ _ hw)⟩, for_list (K := K) (a := wl) (xs := ws.map V.str) (fun i σ G => ∃ (as : List Addr) (st : Sta) (v2 : Option V), σ = [some (.ref wl), some (.ref lv), v2] ∧ Lv G lv a as st ∧ Same H G ∧ (∀ x ∈ as, H x = none) ∧ runA ((ws.map sL).take i) ⟨[], []⟩ = some st ∧ st.sz ≤ i)
    ⟨[], _, _, rfl, L2, s2, (fun _ z => absurd z List.not_mem_nil), rfl, Nat.le_refl _⟩ (by rintro i σ G _ ⟨_, _, _, _, _, e, _⟩; exact SqL.of (e _ _ hw)) ?_ ?_⟩
  · rintro i v σ G hv ⟨as, st, v2, rfl, L3, s3, fr, hr0, sz⟩
    obtain ⟨z, rfl, hzi⟩ := strs_at hv
    have mz := List.mem_of_getElem? hzi
    have hl := hb z mz
    have hz : z.length ≤ sizeLine := Nat.le_of_lt (big4 (by omega))
    have il := (List.getElem?_eq_some_iff.mp hzi).1
    have hzi' : (ws.map sL)[i]? = some (sL z) := by rw [List.getElem?_map, hzi]; rfl
    have stp : ∀ o, wordA (sL z) st = o → runA ((ws.map sL).take (i + 1)) ⟨[], []⟩ = o := fun o e => by
      rw [take_snoc hzi', runA_app, hr0]
      show (wordA (sL z) st).bind (runA []) = o
      rw [e]
      cases o <;> rfl
    have bad : wordA (sL z) st = none → readA (ws.map sL) = none := fun e => by
      have q := stp none e
      unfold readA
      rw [← List.take_append_drop (i + 1) (ws.map sL), runA_app, q]
      rfl
    refine ⟨_, rfl, rfl, z, _, rfl, rfl, _, rfl, ?_⟩
    have e40 : ("(" : Str) = ⟨#[40]⟩ := by decide +kernel
    rw [e40, starts_40]
    by_cases c : (sL z).head? = some 40
    · refine iteP (decide_eq_true c) ?_
      have es : sL (Txt.slice z (some 1) none) = (sL z).tail := by rw [show (1 : Int) = ((1 : Nat) : Int) from rfl, slice_from]; rw [List.drop_one]
      refine ⟨_, rfl, 1, rfl, z, rfl, hz, cS, _, rfl, .inr (hS G), rfl, flat_texts _, _, rfl, ?_⟩
      rw [notin_strs]
      by_cases d : Txt.slice z (some 1) none ∈ (["+", "-", "*", "<", "="] : List Str)
      · rw [decide_eq_true d]
        refine iteN (fun q => absurd q (show ¬ (!true) = true by decide)) ?_
        obtain ⟨s, hs, e⟩ := (sig_mem _).mp d
        have ez : Txt.slice z (some 1) none = ⟨#[s]⟩ := sL_inj e
        have wa : wordA (sL z) st = some ⟨st.base, (s, []) :: st.ups⟩ := by
          unfold wordA
          rw [if_pos c, ← es, e]
          exact if_pos hs
        refine ⟨_, rfl, .inl ⟨rfl, _, SqL.of L3.top⟩, _, rfl, 1, rfl, z, rfl, hz, by show 1 ≤ sizeLine; decide, fun x hx => ?_⟩
        rw [ez]
        have L4 := L3.open (s := s) hx
        have al := L3.alen
        have s4 := same_new hx (.lst [.str ⟨#[s]⟩])
        have t4 := s4 _ _ L3.top
        have fx : H x = none := s3.free hx
        generalize upd G x (.lst [.str ⟨#[s]⟩]) = G4 at L4 s4 t4 ⊢
        refine ⟨lv, _, _, rfl, rfl, t4, big4 (by simp; omega), ?_⟩
        rw [show (a :: as.reverse).map V.ref ++ [V.ref x] = (a :: (x :: as).reverse).map V.ref from by simp]
        have w1 := wordA_sz wa
        exact ⟨x :: as, _, _, rfl, L4, keep (as := as) (s3.trans s4) fr (Off.upd1 List.mem_cons_self), fun y hy => by
          rcases List.mem_cons.mp hy with q | q
          · rw [q]; exact fx
          · exact fr y q, stp _ wa, by omega⟩
      · rw [decide_eq_false d]
        refine iteP (show (!false) = true by decide) ?_
        refine k1 (bad ?_) G s3
        unfold wordA
        rw [if_pos c]
        rcases q : (sL z).tail with _ | ⟨s, _ | ⟨s2, r⟩⟩
        · rfl
        · exact if_neg fun hs => d ((sig_mem _).mpr ⟨s, hs, by rw [es, q]⟩)
        · rfl
    · refine iteN (fun q => c (of_decide_eq_true q)) ?_
      have wa : wordA (sL z) st = (leaf (rs (sL z))).bind fun t => Sta.closeN ((sL z).length - (rs (sL z)).length) (st.push t) := if_neg c
      refine ⟨_, rfl, _, rfl, lv, a, as, st, z, rfl, L3, by omega, by omega, fun G4 e4 o4 => ⟨_, rfl, iteP (by decide) (k1 (bad (wa.trans e4)) G4 (keep s3 fr o4))⟩, fun as' st' G4 e4 L4 o4 sub => ⟨_, rfl, iteN (by decide) ?_⟩⟩
      have w1 := wordA_sz (wa.trans e4)
      exact ⟨as', st', _, rfl, L4, keep s3 fr o4, fun y hy => fr y (sub y hy), stp _ (wa.trans e4), by omega⟩
  · rintro σ G ⟨as, st, v2, rfl, L3, s3, fr, hr0, sz⟩
    rw [List.length_map] at hr0 sz
    rw [List.take_of_length_le (by rw [List.length_map]; exact Nat.le_refl _)] at hr0
    have ra : readA (ws.map sL) = endA st := by unfold readA; rw [hr0]; rfl
    rw [ra] at k1 k2
    refine ⟨fun b G' => G' = G ∧ (b = true → endA st = none) ∧ (b = false → ∃ t p, st = ⟨[t], []⟩ ∧ G a = some (.lst [.ref p]) ∧ PH G t p ∧ as = []), ?_, ?_⟩
    · refine ⟨_, rfl, lv, _, rfl, .inl (SqL.of L3.top), rfl, _, rfl, ?_⟩
      obtain ⟨bs, us⟩ := st
      cases as with
      | cons x r =>
        cases us with
        | nil => exact L3.u.elim
        | cons e ru => exact iteP (show (!decide (V.int ((((a :: (x :: r).reverse).map V.ref).length : Nat) : Int) = V.int 1)) = true by rw [decide_eq_false (fun h => by injection h with h; simp at h; omega)]; rfl) ⟨rfl, (fun _ => by cases bs with
          | nil => rfl
          | cons t l => cases l <;> rfl), fun q => nomatch q⟩
      | nil =>
        cases us with
        | cons _ _ => exact L3.u.elim
        | nil =>
          refine iteN (by simp) ?_
          obtain ⟨vs, h1, h2⟩ := L3.b
          have h3 := h2.length
          refine ⟨_, rfl, lv, _, _, .ref a, rfl, rfl, SqL.of L3.top, at0, a, _, rfl, .inl (SqL.of h1), rfl, _, rfl, rfl, fun q => ?_, fun q => ?_⟩
          · rcases bs with _ | ⟨t, _ | ⟨t2, r⟩⟩
            · rfl
            · have q : (!decide (V.int ((vs.length : Nat) : Int) = V.int 1)) = true := q
              rw [show vs.length = 1 from h3] at q
              exact absurd q (by decide)
            · rfl
          · have q : (!decide (V.int ((vs.length : Nat) : Int) = V.int 1)) = false := q
            have v1 : vs.length = 1 := by
              apply Classical.byContradiction
              intro n
              rw [decide_eq_false (fun h => n (by injection h with h; omega))] at q
              exact absurd q (by decide)
            rcases bs with _ | ⟨t, _ | ⟨t2, r⟩⟩
            · rw [v1] at h3; cases h3
            · obtain ⟨_, rfl, ⟨p, rfl, ph⟩⟩ := two1 h2
              exact ⟨t, p, rfl, h1, ph, rfl⟩
            · rw [v1] at h3; simp at h3
    rintro b G' ⟨rfl, h1, h2⟩
    cases b with
    | true => exact iteP rfl (k1 (h1 rfl) _ s3)
    | false =>
      refine iteN (by simp) ?_
      obtain ⟨t, p, rfl, e1, ph, rfl⟩ := h2 rfl
      exact ⟨_, rfl, lv, _, _, .ref a, rfl, rfl, SqL.of L3.top, at0, a, _, _, .ref p, rfl, rfl, SqL.of e1, at0, k2 t p _ rfl s3 ph⟩
theorem scRdT : FnScope ["text", "term"] ["text"] (defScope sRdT) := ⟨rfl, rfl, rfl, by decide +kernel, rfl, by decide +kernel, by decide +kernel⟩
theorem ok_RdT {f : Addr} {fd : FuncData} (F : Fun K "read_term" "read_term" sRdT f fd)
    {cN D iN : Addr} {eN : FuncData} {oN : Obj} (m_NoText : mg "NoText" = some (.ref cN)) (MN : XMk K cN D (some (.ref iN))) (lN : K.lookup iN = some oN) (hN : oN.cls = .type "function") (GN : FnOk P w K mg base CX0 1 iN eN ["self", "row"] (spInit cN)) (BN : Binds K eN ["self", "row"] [])
    {f_TrO : Addr} {d_TrO : FuncData} (G_TrO : FnOk P w K mg base CX0 (4) f_TrO d_TrO ["words"] spTermOf) (b_TrO : Binds K d_TrO ["words"] []) (k_TrO : PySem.W.keepIn K (.ref f_TrO) = true) (m_TrO : mg "term_of" = some (.ref f_TrO))
     :
    FnOk P w K mg base (CX2 P w) (5) f fd ["text"] (spRT cN) := by
  refine F.okY scRdT (fun vs H Q E h => ?_) (fun cdv A outer s H vs Q E hr h => ?_)
  · obtain ⟨z, rfl, _⟩ := h
    rfl
  obtain ⟨z, rfl, hl, k1, k2⟩ := h
  have hu := hu_of hr
  have hr1 : Room 1 _ := hr.mono (by decide)
  have hr4 : Room 4 _ := hr.mono (by decide)
  refine ⟨_, (pss_cons (ps_set (i := 1) scRdT.nd rfl (Or.inl rfl) (pe_call G_TrO hr4 (by rfl) m_TrO k_TrO b_TrO .nil pass0 (pa_cons (pe_bm PySem.F.plainAttrs_str PySem.F.slot_str_split PySem.F.type_str_split mt_split (pv 0) (pa_cons pe_str pa_nil)) pa_nil)))
    (pss_cons (ps_if (pt_cmp (pc_isN (pv 1))) (pss_one (ps_raise1 MN (pe_xmake1 MN lN hN GN (hr.mono (by decide)) (by rfl) m_NoText BN pass0 (pa_cons pe_int pa_nil)))) pss_nil)
    (pss_one (ps_ret (pv 1))))), ?_⟩
  have e32 : (" " : Str) = ⟨#[32]⟩ := by decide +kernel
  have sl := split_len z ⟨#[32]⟩
  obtain ⟨w1, w2, w3⟩ := split_words z
  have wl : ∀ w ∈ Txt.split z ⟨#[32]⟩, w.length ≤ 1000000 := fun w hw => by
    have h := part_len (List.mem_map.mpr ⟨w, hw, rfl⟩ : sL w ∈ (Txt.split z ⟨#[32]⟩).map sL)
    rw [w3, sL_len, sL_len] at h
    omega
  have it : ∀ T, readA ((Txt.split z ⟨#[32]⟩).map sL) = some T ↔ isT z T := fun T => by rw [readA_iff w1 w2, w3]; exact Iff.rfl
  refine ⟨_, rfl, rfl, z, 32, rfl, by rw [e32], by omega, fun l hl => ?_⟩
  have s1 := same_new hl (.lst ((Txt.split z ⟨#[32]⟩).map V.str))
  have h1 : upd H l (.lst ((Txt.split z ⟨#[32]⟩).map V.str)) l = some (.lst ((Txt.split z ⟨#[32]⟩).map V.str)) := upd_same
  generalize upd H l (.lst ((Txt.split z ⟨#[32]⟩).map V.str)) = H1 at s1 h1 ⊢
  refine ⟨l, _, rfl, h1, by omega, wl, fun e H2 s2 => ?_, fun T p H2 e s2 ph => ?_⟩
  · refine ⟨_, rfl, _, rfl, iteP (decide_eq_true rfl) ?_⟩
    have s3 := s1.trans s2
    refine ⟨by show 1 ≤ sizeLine; decide, fun x hx => ⟨x, .int 0, rfl, upd_same, fun dx hd => ⟨rfl, ?_⟩⟩⟩
    have ne : x ≠ dx := ne_of_none upd_same hd
    have hd2 : H2 dx = none := by rw [upd_ne ne.symm] at hd; exact hd
    refine ⟨x, dx, rfl, by rw [upd_ne ne, upd_same], s3.free hx, ?_⟩
    refine k2 (fun T q => by have := (it T).mpr q; rw [e] at this; cases this) dx _ (fun b u q => ?_) (by rw [rem_ne ne.symm, upd_same])
    have b1 := s3 b u q
    have bx : b ≠ x := ne_of_none b1 hx
    have bd : b ≠ dx := ne_of_none b1 hd2
    rw [rem_ne bx, upd_ne bd, upd_ne bx, upd_ne bd, upd_ne bx]
    exact b1
  · refine ⟨_, rfl, _, rfl, iteN (fun q => by have q := of_decide_eq_true q; cases q) ?_⟩
    exact ⟨_, rfl, k1 T p H2 ((it T).mp e) (s1.trans s2) ph⟩
end
end Mine
namespace Mine
open PySem L2
section
variable {P : Program} {w : World} {K : PySem.W.Frag} {mg : Str → Option Value} {base : Heap}
theorem scShw : FnScope ["term", "pieces", "waiting", "part"] ["term"] (defScope sShw) := ⟨rfl, rfl, rfl, by decide +kernel, rfl, by decide +kernel, by decide +kernel⟩
theorem ok_Shw {f : Addr} {fd : FuncData} (F : Fun K "show_term" "show_term" sShw f fd)
    (m_isinstance : mg "isinstance" = none) (m_str : mg "str" = none) :
    FnOk P w K mg base CX0 (1) f fd ["term"] spShow := by
  refine F.ok scShw (fun vs H Q E h => ?_) (fun cdv A outer s H vs Q E hr h => ?_)
  · obtain ⟨p, T, rfl, _⟩ := h
    rfl
  obtain ⟨p, T, rfl, ph, ok, hz, k⟩ := h
  have hu := hu_of hr
  refine ⟨_, (pss_cons (ps_set (i := 1) scShw.nd rfl (Or.inl rfl) (pe_lst pa_nil))
    (pss_cons (ps_set (i := 2) scShw.nd rfl (Or.inl rfl) (pe_lst (pa_cons (pv 0) pa_nil)))
    (pss_cons (ps_while PassesOwn.never (pt_truth (pv 2) (fun _ => rfl))
    (pss_cons (ps_set (i := 3) scShw.nd rfl (Or.inl rfl) (pe_bm0 PySem.F.plainAttrs_list PySem.F.slot_list_pop PySem.F.type_list_pop mt_pop (pv 2)))
    (pss_one (ps_if (pt_val (pe_callB call_isinst (by rfl) m_isinstance PyProof.Rows.boot_isinstance (pa_cons (pv 3) (pa_cons (pe_bltn (v := .ty "str") (by rfl) m_str PyProof.Rows.boot_str rfl) pa_nil)))) (pss_one (ps_expr (pe_bm PySem.F.plainAttrs_list PySem.F.slot_list_append PySem.F.type_list_append mt_append (pv 1) (pa_cons (pv 3) pa_nil)))) (pss_one (ps_if (pt_cmpR op_eq (pe_ix ix_tup (pv 3) pe_int (fun _ _ => rfl)) pe_str (nomark _)) (pss_one (ps_expr (pe_bm PySem.F.plainAttrs_list PySem.F.slot_list_extend PySem.F.type_list_extend mt_extend (pv 2) (pa_cons (pe_lst (pa_cons pe_str (pa_cons (pe_ix ix_tup (pv 3) pe_int (fun _ _ => rfl)) (pa_cons pe_str (pa_cons (pe_ix ix_tup (pv 3) pe_int (fun _ _ => rfl)) (pa_cons pe_str (pa_cons (pe_ix ix_tup (pv 3) pe_int (fun _ _ => rfl)) (pa_cons pe_str pa_nil)))))))) pa_nil)))) (pss_one (ps_expr (pe_bm PySem.F.plainAttrs_list PySem.F.slot_list_append PySem.F.type_list_append mt_append (pv 1) (pa_cons (pe_callTy call_str1 (by rfl) m_str PyProof.Rows.boot_str (pa_cons (pe_ix ix_tup (pv 3) pe_int (fun _ _ => rfl)) pa_nil)) pa_nil))))))))))
    (pss_one (ps_ret (pe_bm PySem.F.plainAttrs_str PySem.F.slot_str_join PySem.F.type_str_join mt_join pe_str (pa_cons (pv 1) pa_nil))))))), ?_⟩
  refine ⟨Nat.zero_le _, fun l1 hl1 => ?_⟩
  have s1 := same_new hl1 (.lst [])
  have h1 : upd H l1 (.lst []) l1 = some (.lst []) := upd_same
  generalize upd H l1 (.lst []) = H1 at s1 h1 ⊢
  refine ⟨_, rfl, by show 1 ≤ sizeLine; decide, fun l2 hl2 => ?_⟩
  have n2 := s1.free hl2
  have ne : l2 ≠ l1 := (ne_of_none h1 hl2).symm
  have s2 := s1.trans (same_new hl2 (.lst [.ref p]))
  have h12 : upd H1 l2 (.lst [.ref p]) l1 = some (.lst []) := (upd_ne ne.symm).trans h1
  have h2 : upd H1 l2 (.lst [.ref p]) l2 = some (.lst [.ref p]) := upd_same
  generalize upd H1 l2 (.lst [.ref p]) = H2 at s2 h12 h2 ⊢
  refine ⟨fun m σ G => ∃ (ps : List Str) (ws : List V) (its : List Itm) (v3 : Option V), σ = [some (.ref p), some (.ref l1), some (.ref l2), v3] ∧ Same H G ∧ G l1 = some (.lst (ps.map V.str)) ∧ G l2 = some (.lst ws) ∧ Two (ItV H) ws its ∧ ItD ps its T ∧ m = itSz its,
    ⟨_, [], [.ref p], [.inr T], none, rfl, s2, h12, h2, ⟨⟨p, rfl, ph⟩, trivial⟩, itd_init ok, rfl⟩, ?_⟩
  rintro m σ G ⟨ps, ws, its, v3, rfl, s3, g1, g2, tw, dd, rfl⟩
  refine ⟨_, rfl, _, .inl ⟨_, SqL.of g2, rfl⟩, ?_⟩
  have pl := dd.plen
  have il := dd.ilen
  have wl := tw.length
  rcases snoc_cases its with rfl | ⟨its, it, rfl⟩
  · obtain rfl : ws = [] := List.length_eq_zero_iff.mp wl
    refine iteN (by simp) ?_
    have dn := dd.done
    refine ⟨rfl, _, rfl, ?_⟩
    refine ⟨_, l1, ps, rfl, rfl, SqL.of g1, by rw [dd.sum]; show _ + ps.length * 0 ≤ _; omega, ?_⟩
    rw [dn]
    exact k G s3
  · obtain ⟨us, u, rfl, tw1, hu⟩ := two_snoc tw
    refine iteP (by simp) ?_
    have wl1 := tw1.length
    rw [List.length_append, List.length_cons, List.length_nil] at il
    refine ⟨fun σ' G' => ∃ (ps' : List Str) (ws' : List V) (its' : List Itm) (v3 : Option V), σ' = [some (.ref p), some (.ref l1), some (.ref l2), v3] ∧ Same H G' ∧ G' l1 = some (.lst (ps'.map V.str)) ∧ G' l2 = some (.lst ws') ∧ Two (ItV H) ws' its' ∧ ItD ps' its' T ∧ itSz its' + 1 ≤ itSz (its ++ [it]),
      (by rintro σ' G' ⟨ps', ws', its', v3', e1, e2, e3, e4, e5, e6, e7⟩; exact ⟨_, by omega, ps', ws', its', v3', e1, e2, e3, e4, e5, e6, rfl⟩), ?_⟩
    refine ⟨_, rfl, .inl ⟨rfl, _, SqL.of g2⟩, l2, _, u, rfl, rfl, g2, by simp, ?_⟩
    rw [List.dropLast_concat]
    have s4 := same_lst (ys := us) s3 n2
    have g3 : upd G l2 (.lst us) l2 = some (.lst us) := upd_same
    have g4 : upd G l2 (.lst us) l1 = some (.lst (ps.map V.str)) := (upd_ne ne.symm).trans g1
    generalize upd G l2 (.lst us) = G1 at s4 g3 g4 ⊢
    have psz : (ps.map V.str).length < sizeLine := big4 (by rw [List.length_map]; omega)
    cases it with
    | inl x =>
      obtain rfl : u = .str x := hu
      refine ⟨_, rfl, _, "str", _, true, rfl, .str _, rfl, _, rfl, iteP rfl ?_⟩
      refine ⟨_, rfl, .inl ⟨rfl, _, SqL.of g4⟩, _, rfl, l1, _, _, rfl, rfl, g4, psz, ?_⟩
      refine ⟨ps ++ [x], us, its, _, rfl, same_lst s4 hl1, by rw [upd_same, List.map_append]; rfl, (upd_ne ne).trans g3, tw1, dd.str, by rw [itSz_app]; exact Nat.le_refl _⟩
    | inr t =>
      obtain ⟨q, rfl, hq⟩ := hu
      have hq1 := hq.ts (.of s4)
      have okt := dd.okt
      cases t with
      | num n =>
        have hq1 : G1 q = some (.tup [.str "num", .int (n : Int)]) := hq1
        refine ⟨_, rfl, _, "str", _, false, rfl, .tup hq1, rfl, _, rfl, iteN (by decide) ?_⟩
        refine ⟨_, rfl, q, _, _, .str "num", rfl, rfl, SqT.of hq1, at0, rfl, _, rfl, iteN (fun z => wNO (of_decide_eq_true z)) ?_⟩
        refine ⟨_, rfl, .inl ⟨rfl, _, SqL.of g4⟩, _, rfl, q, _, _, .int (n : Int), rfl, rfl, SqT.of hq1, rfl, .inl ⟨(n : Int), rfl, log_ok okt, l1, _, _, rfl, rfl, g4, psz, ?_⟩⟩
        refine ⟨ps ++ [_], us, its, _, rfl, same_lst s4 hl1, by rw [upd_same, List.map_append]; rfl, (upd_ne ne).trans g3, tw1, dd.num okt, by rw [itSz_app]; exact Nat.le_refl _⟩
      | nam x =>
        have hq1 : G1 q = some (.tup [.str "name", .str (mkS x)]) := hq1
        refine ⟨_, rfl, _, "str", _, false, rfl, .tup hq1, rfl, _, rfl, iteN (by decide) ?_⟩
        refine ⟨_, rfl, q, _, _, .str "name", rfl, rfl, SqT.of hq1, at0, rfl, _, rfl, iteN (fun z => wMO (of_decide_eq_true z)) ?_⟩
        refine ⟨_, rfl, .inl ⟨rfl, _, SqL.of g4⟩, _, rfl, q, _, _, .str (mkS x), rfl, rfl, SqT.of hq1, rfl, .inr ⟨mkS x, rfl, l1, _, _, rfl, rfl, g4, psz, ?_⟩⟩
        refine ⟨ps ++ [_], us, its, _, rfl, same_lst s4 hl1, by rw [upd_same, List.map_append]; rfl, (upd_ne ne).trans g3, tw1, dd.nam, by rw [itSz_app]; exact Nat.le_refl _⟩
      | op s a b =>
        obtain ⟨qa, qb, hq1, ha1, hb1⟩ := hq1
        obtain ⟨qa', qb', hq0, ha0, hb0⟩ := hq
        have ee : [V.str "op", V.str ⟨#[s]⟩, .ref qa, .ref qb] = [V.str "op", V.str ⟨#[s]⟩, .ref qa', .ref qb'] := by
          have z := s4 _ _ hq0
          rw [hq1] at z
          injection z with z
          injection z
        obtain ⟨rfl, rfl⟩ : qa = qa' ∧ qb = qb' := by simpa using ee
        refine ⟨_, rfl, _, "str", _, false, rfl, .tup hq1, rfl, _, rfl, iteN (by decide) ?_⟩
        refine ⟨_, rfl, q, _, _, .str "op", rfl, rfl, SqT.of hq1, at0, rfl, _, rfl, iteP (decide_eq_true rfl) ?_⟩
        refine ⟨_, rfl, .inl ⟨rfl, _, SqL.of g3⟩, _, rfl, q, _, _, .ref qb, rfl, rfl, SqT.of hq1, rfl, _, rfl, q, _, _, .ref qa, rfl, rfl, SqT.of hq1, rfl, _, rfl, q, _, _, .str ⟨#[s]⟩, rfl, rfl, SqT.of hq1, rfl, by show 7 ≤ sizeLine; decide, fun l5 hl5 => ?_⟩
        have s5 := s4.trans (same_new hl5 (.lst [.str ")", .ref qb, .str " ", .ref qa, .str " ", .str ⟨#[s]⟩, .str "("]))
        have g5 : upd G1 l5 (.lst [.str ")", .ref qb, .str " ", .ref qa, .str " ", .str ⟨#[s]⟩, .str "("]) l5 = some (.lst [.str ")", .ref qb, .str " ", .ref qa, .str " ", .str ⟨#[s]⟩, .str "("]) := upd_same
        have g6 := (same_new hl5 (.lst [.str ")", .ref qb, .str " ", .ref qa, .str " ", .str ⟨#[s]⟩, .str "("])) _ _ g3
        have g7 := (same_new hl5 (.lst [.str ")", .ref qb, .str " ", .ref qa, .str " ", .str ⟨#[s]⟩, .str "("])) _ _ g4
        generalize upd G1 l5 (.lst [.str ")", .ref qb, .str " ", .ref qa, .str " ", .str ⟨#[s]⟩, .str "("]) = G5 at s5 g5 g6 g7 ⊢
        refine ⟨l2, l5, _, _, rfl, rfl, g6, g5, Nat.le_of_lt (big4 (by show us.length + 7 ≤ _; omega)), ?_⟩
        refine ⟨ps, us ++ [.str ")", .ref qb, .str " ", .ref qa, .str " ", .str ⟨#[s]⟩, .str "("], its ++ opIt s a b, _, rfl, same_lst s5 n2, (upd_ne ne.symm).trans g7, upd_same, Two.append tw1 (op_two ⟨qa, rfl, ha0⟩ ⟨qb, rfl, hb0⟩), dd.op, op_sz its s a b⟩
end
end Mine
namespace Mine
open PySem L2
section
variable {P : Program} {w : World} {K : PySem.W.Frag} {mg : Str → Option Value} {base : Heap}
theorem scDraw : FnScope ["_law_state", "_law_many", "_law_found", "_law_cell", "_law_number"] ["_law_state", "_law_many"] (defScope sDraw) := ⟨rfl, rfl, rfl, by decide +kernel, rfl, by decide +kernel, by decide +kernel⟩
theorem ok_Draw {f : Addr} {fd : FuncData} (F : Fun K "_law_draw" "_law_draw" sDraw f fd)
    (m_len : mg "len" = none) :
    FnOk P w K mg base CX0 (1) f fd ["_law_state", "_law_many"] spDraw := by
  refine F.ok scDraw (fun vs H Q E h => ?_) (fun cdv A outer s H vs Q E hr h => ?_)
  · obtain ⟨s, m, rfl, _⟩ := h
    rfl
  obtain ⟨s, m, rfl, D, m0, m1, k⟩ := h
  have hu := hu_of hr
  refine ⟨_, (pss_cons (ps_asg (pe_op op_add (pe_ix ix_list (pv 0) pe_int (fun _ _ => rfl)) pe_int) (pg_sub (pv 0) pe_int set_list))
    (pss_cons (ps_if (pt_cmpR op_gt (pe_ix ix_list (pv 0) pe_int (fun _ _ => rfl)) pe_int (nomark _)) (pss_cons (ps_set (i := 2) scDraw.nd rfl (Or.inl rfl) (pe_op op_mod (pe_ix ix_list (pv 0) pe_int (fun _ _ => rfl)) (pv 1)))
    (pss_cons (ps_asg (pe_op op_fdivB (pe_ix ix_list (pv 0) pe_int (fun _ _ => rfl)) (pv 1)) (pg_sub (pv 0) pe_int set_list))
    (pss_one (ps_ret (pv 2))))) pss_nil)
    (pss_cons (ps_set (i := 3) scDraw.nd rfl (Or.inl rfl) pe_int)
    (pss_cons (ps_post (ps_if (pt_cmpR op_lt (pe_ix ix_list (pv 0) pe_int (fun _ _ => rfl)) (pe_callB call_len_seq (by rfl) m_len PySem.boot_len (pa_cons (pe_ix ix_list (pv 0) pe_int (fun _ _ => rfl)) pa_nil)) (nomark _)) (pss_cons (ps_set (i := 3) scDraw.nd rfl (Or.inl rfl) (pe_ix ix_list (pe_ix ix_list (pv 0) pe_int (fun _ _ => rfl)) (pe_ix ix_list (pv 0) pe_int (fun _ _ => rfl)) (fun _ _ => rfl)))
    (pss_cons (ps_asg (pe_op op_add (pe_ix ix_list (pv 0) pe_int (fun _ _ => rfl)) pe_int) (pg_sub (pv 0) pe_int set_list))
    (pss_one (ps_if (pt_cmpR op_ge (pv 3) (pe_op op_pow pe_int pe_int) (nomark _)) (pss_cons (ps_asg (pe_op op_fdivB (pv 3) (pv 1)) (pg_sub (pv 0) pe_int set_list))
    (pss_one (ps_ret (pe_op op_mod (pv 3) (pv 1))))) pss_nil)))) (pss_one (ps_if (pt_cmpR op_gt (pe_callB call_len_seq (by rfl) m_len PySem.boot_len (pa_cons (pe_ix ix_list (pv 0) pe_int (fun _ _ => rfl)) pa_nil)) pe_int (nomark _)) (pss_one (ps_set (i := 3) scDraw.nd rfl (Or.inl rfl) (pe_ix ix_list (pe_ix ix_list (pv 0) pe_int (fun _ _ => rfl)) (pe_op op_mod (pe_ix ix_list (pv 0) pe_int (fun _ _ => rfl)) (pe_callB call_len_seq (by rfl) m_len PySem.boot_len (pa_cons (pe_ix ix_list (pv 0) pe_int (fun _ _ => rfl)) pa_nil))) (fun _ _ => rfl)))) pss_nil))))
    (pss_cons (ps_set (i := 4) scDraw.nd rfl (Or.inl rfl) (pe_op op_mod (pe_op op_add (pe_op op_add (pe_op op_mul (pe_op op_mod (pv 3) pe_int) pe_int) (pe_op op_mul pe_int (pe_ix ix_list (pv 0) pe_int (fun _ _ => rfl)))) pe_int) pe_int))
    (pss_cons (ps_set (i := 4) scDraw.nd rfl (Or.inl rfl) (pe_op op_mod (pe_op op_add (pe_op op_mul (pv 4) (pv 4)) (pe_op op_mul pe_int (pe_ix ix_list (pv 0) pe_int (fun _ _ => rfl)))) pe_int))
    (pss_cons (ps_set (i := 4) scDraw.nd rfl (Or.inl rfl) (pe_op op_mod (pe_op op_add (pe_op op_mul (pv 4) pe_int) pe_int) pe_int))
    (pss_one (ps_ret (pe_op op_mod (pe_op op_mod (pe_op op_mul (pv 4) (pv 4)) pe_int) (pv 1))))))))))), ?_⟩
  obtain ⟨c, ns, a, b, i, e, ec, ne, a0, b0, i0, nl⟩ := D
  have inz : ∀ {j : Nat} {v : V}, (ns.map V.int)[j]? = some v → ∃ z, v = .int z := fun {j v} h => by
    rw [List.getElem?_map] at h
    obtain ⟨z, _, e⟩ := Option.map_eq_some_iff.mp h
    exact ⟨z, e.symm⟩
  refine ⟨_, rfl, s, _, _, .int b, rfl, rfl, SqL.of e, rfl, _, _, rfl, rfl, _, rfl, s, _, _, 2, rfl, rfl, e, rfl, ?_⟩
  dsimp only [List.set]
  have o1 : Off [s] H (upd H s (.lst [.ref c, .int a, .int (b + 1), .int i])) := Off.upd1 (by simp)
  have e1 : upd H s (.lst [.ref c, .int a, .int (b + 1), .int i]) s = some (.lst [.ref c, .int a, .int (b + 1), .int i]) := upd_same
  have c1 : upd H s (.lst [.ref c, .int a, .int (b + 1), .int i]) c = some (.lst (ns.map V.int)) := (upd_ne ne.symm).trans ec
  generalize upd H s (.lst [.ref c, .int a, .int (b + 1), .int i]) = H1 at o1 e1 c1 ⊢
  refine ⟨_, rfl, s, _, _, .int a, rfl, rfl, SqL.of e1, rfl, _, _, rfl, rfl, _, rfl, ?_⟩
  by_cases ca : 0 < a
  · refine iteP (decide_eq_true ca) ?_
    refine ⟨_, rfl, s, _, _, .int a, rfl, rfl, SqL.of e1, rfl, _, rfl, _, _, rfl, rfl, m0, ?_⟩
    refine ⟨_, rfl, s, _, _, .int a, rfl, rfl, SqL.of e1, rfl, _, rfl, _, _, rfl, rfl, ⟨m0, by omega⟩, _, rfl, s, _, _, 1, rfl, rfl, e1, rfl, ?_⟩
    exact ⟨_, rfl, k _ _ (Int.emod_nonneg _ (by omega)) (Int.emod_lt_of_pos _ m0) ⟨c, ns, a / m, b + 1, i, upd_same, (upd_ne ne.symm).trans c1, ne, Int.ediv_nonneg a0 (by omega), by omega, i0, nl⟩ (o1.trans (Off.upd1 (by simp)))⟩
  refine iteN (by simpa using ca) ?_
  refine ⟨fun σ G => ∃ (z j : Int), σ = [some (.ref s), some (.int m), none, some (.int z), none] ∧ Off [s] H G ∧ G s = some (.lst [.ref c, .int a, .int (b + 1), .int j]) ∧ G c = some (.lst (ns.map V.int)) ∧ 0 ≤ j, ?_, ?_⟩
  · refine ⟨_, rfl, s, _, _, .int i, rfl, rfl, SqL.of e1, rfl, _, rfl, s, _, _, .ref c, rfl, rfl, SqL.of e1, at0, c, _, rfl, .inl (SqL.of c1), _, _, rfl, rfl, _, rfl, ?_⟩
    by_cases ci : i < ((ns.map V.int).length : Int)
    · refine iteP (decide_eq_true ci) ?_
      obtain ⟨v, hv, ha⟩ := at_nat i0 ci
      obtain ⟨z, rfl⟩ := inz hv
      refine ⟨_, rfl, s, _, _, .ref c, rfl, rfl, SqL.of e1, at0, _, rfl, s, _, _, .int i, rfl, rfl, SqL.of e1, rfl, c, _, _, .int z, rfl, rfl, SqL.of c1, ha, ?_⟩
      refine ⟨_, rfl, s, _, _, .int i, rfl, rfl, SqL.of e1, rfl, _, _, rfl, rfl, _, rfl, s, _, _, 3, rfl, rfl, e1, rfl, ?_⟩
      dsimp only [List.set]
      have o2 : Off [s] H (upd H1 s (.lst [.ref c, .int a, .int (b + 1), .int (i + 1)])) := o1.trans (Off.upd1 (by simp))
      have e2 : upd H1 s (.lst [.ref c, .int a, .int (b + 1), .int (i + 1)]) s = some (.lst [.ref c, .int a, .int (b + 1), .int (i + 1)]) := upd_same
      have c2 : upd H1 s (.lst [.ref c, .int a, .int (b + 1), .int (i + 1)]) c = some (.lst (ns.map V.int)) := (upd_ne ne.symm).trans c1
      generalize upd H1 s (.lst [.ref c, .int a, .int (b + 1), .int (i + 1)]) = H2 at o2 e2 c2 ⊢
      have cp : CPow 10 18 := ⟨by decide, by decide, by decide⟩
      refine ⟨_, rfl, _, _, rfl, rfl, cp, _, _, rfl, rfl, _, rfl, ?_⟩
      by_cases cz : (10 : Int) ^ (18 : Int).toNat ≤ z
      · refine iteP (decide_eq_true cz) ?_
        have z0 : 0 ≤ z := Int.le_trans (by decide) cz
        refine ⟨_, rfl, _, rfl, _, _, rfl, rfl, ⟨m0, by omega⟩, _, rfl, s, _, _, 1, rfl, rfl, e2, rfl, ?_⟩
        exact ⟨_, rfl, _, rfl, _, _, rfl, rfl, m0, k _ _ (Int.emod_nonneg _ (by omega)) (Int.emod_lt_of_pos _ m0) ⟨c, ns, z / m, b + 1, i + 1, upd_same, (upd_ne ne.symm).trans c2, ne, Int.ediv_nonneg z0 (by omega), by omega, by omega, nl⟩ (o2.trans (Off.upd1 (by simp)))⟩
      · refine iteN (fun q => cz (of_decide_eq_true q)) ?_
        exact ⟨z, i + 1, rfl, o2, e2, c2, by omega⟩
    · refine iteN (fun q => ci (of_decide_eq_true q)) ?_
      refine ⟨_, rfl, s, _, _, .ref c, rfl, rfl, SqL.of e1, at0, c, _, rfl, .inl (SqL.of c1), _, _, rfl, rfl, _, rfl, ?_⟩
      by_cases cl : (0 : Int) < ((ns.map V.int).length : Int)
      · refine iteP (decide_eq_true cl) ?_
        obtain ⟨v, hv, ha⟩ := at_nat (xs := ns.map V.int) (r := (b + 1) % ((ns.map V.int).length : Int)) (Int.emod_nonneg _ (by omega)) (Int.emod_lt_of_pos _ cl)
        obtain ⟨z, rfl⟩ := inz hv
        exact ⟨_, rfl, s, _, _, .ref c, rfl, rfl, SqL.of e1, at0, _, rfl, s, _, _, .int (b + 1), rfl, rfl, SqL.of e1, rfl, _, rfl, s, _, _, .ref c, rfl, rfl, SqL.of e1, at0, c, _, rfl, .inl (SqL.of c1), _, _, rfl, rfl, cl, c, _, _, .int z, rfl, rfl, SqL.of c1, ha, z, i, rfl, o1, e1, c1, i0⟩
      · exact iteN (fun q => cl (of_decide_eq_true q)) ⟨7, i, rfl, o1, e1, c1, i0⟩
  rintro σ G ⟨z, j, rfl, o2, e2, c2, j0⟩
  have q1 : (0 : Int) < 2147483629 := by decide
  have q2 : (0 : Int) < 2147483647 := by decide
  have q3 : (0 : Int) < 2147483587 := by decide
  have q4 : (0 : Int) < 2147483579 := by decide
  refine ⟨_, rfl, _, _, rfl, rfl, q1, _, _, rfl, rfl, .inr ⟨by decide, by decide⟩, _, rfl, s, _, _, .int (b + 1), rfl, rfl, SqL.of e2, rfl, _, _, rfl, rfl, .inl ⟨by decide, by decide⟩, _, _, rfl, rfl, _, _, rfl, rfl, _, _, rfl, rfl, q2, ?_⟩
  have n1 : ∀ x : Int, -(2 ^ 64) < x % 2147483647 ∧ x % 2147483647 < 2 ^ 64 := fun x => by omega
  have n2 : ∀ x : Int, -(2 ^ 64) < x % 2147483629 ∧ x % 2147483629 < 2 ^ 64 := fun x => by omega
  have n3 : ∀ x : Int, -(2 ^ 64) < x % 2147483587 ∧ x % 2147483587 < 2 ^ 64 := fun x => by omega
  refine ⟨_, rfl, _, rfl, _, _, rfl, rfl, .inl (n1 _), _, rfl, s, _, _, .int (b + 1), rfl, rfl, SqL.of e2, rfl, _, _, rfl, rfl, .inl ⟨by decide, by decide⟩, _, _, rfl, rfl, _, _, rfl, rfl, q1, ?_⟩
  refine ⟨_, rfl, _, _, rfl, rfl, .inl (n2 _), _, _, rfl, rfl, _, _, rfl, rfl, q3, ?_⟩
  refine ⟨_, rfl, _, rfl, _, _, rfl, rfl, .inl (n3 _), _, _, rfl, rfl, q4, _, rfl, _, _, rfl, rfl, m0, ?_⟩
  exact k _ _ (Int.emod_nonneg _ (by omega)) (Int.emod_lt_of_pos _ m0) ⟨c, ns, a, b + 1, j, e2, c2, ne, a0, by omega, j0, nl⟩ o2
end
end Mine
namespace Mine
open PySem L2
section
variable {P : Program} {w : World} {K : PySem.W.Frag} {mg : Str → Option Value} {base : Heap}
theorem nd_Nam1 : (["_law_k", "_law_letters", "_law_state"] : List Str).Nodup := by decide +kernel
theorem scNam : FnScope ["_law_state", "_law_letters", "_law_kept", "_law_word", "_law_form", "_law_name_here"] ["_law_state"] (defScope sNam) := ⟨rfl, rfl, rfl, by decide +kernel, rfl, by decide +kernel, by decide +kernel⟩
theorem ok_Nam {f : Addr} {fd : FuncData} (F : Fun K "_law_name" "_law_name" sNam f fd)
    {f_Draw : Addr} {d_Draw : FuncData} (G_Draw : FnOk P w K mg base CX0 (1) f_Draw d_Draw ["_law_state", "_law_many"] spDraw) (b_Draw : Binds K d_Draw ["_law_state", "_law_many"] []) (k_Draw : PySem.W.keepIn K (.ref f_Draw) = true) (m_Draw : mg "_law_draw" = some (.ref f_Draw))
    (m_range : mg "range" = none) :
    FnOk P w K mg base CX0 (2) f fd ["_law_state"] spNam := by
  refine F.ok scNam (fun vs H Q E h => ?_) (fun cdv A outer s H vs Q E hr h => ?_)
  · obtain ⟨s, rfl, _⟩ := h
    rfl
  obtain ⟨s, rfl, D, k⟩ := h
  have hu := hu_of hr
  have hr1 : Room 1 _ := hr.mono (by decide)
  refine ⟨_, (@pss_cons _ _ _ _ _ (ps_set (i := 1) scNam.nd rfl (Or.inr rfl) pe_str)
    (@pss_cons _ _ _ _ _ (@ps_set _ _ 2 _ _ _ _ scNam.nd rfl (Or.inl rfl) (@pe_lst _ _ _ _ (@pa_cons _ _ _ _ _ pe_str (@pa_cons _ _ _ _ _ pe_str (@pa_cons _ _ _ _ _ pe_str (@pa_cons _ _ _ _ _ pe_str (@pa_cons _ _ _ _ _ pe_str (@pa_cons _ _ _ _ _ pe_str (@pa_cons _ _ _ _ _ pe_str (@pa_cons _ _ _ _ _ pe_str (@pa_cons _ _ _ _ _ pe_str (@pa_cons _ _ _ _ _ pe_str (@pa_cons _ _ _ _ _ pe_str (@pa_cons _ _ _ _ _ pe_str pa_nil rfl) rfl) rfl) rfl) rfl) rfl) rfl) rfl) rfl) rfl) rfl) rfl)) rfl (Or.inl rfl))
    (@pss_cons _ _ _ _ _ (ps_set (i := 3) scNam.nd rfl (Or.inl rfl) (pe_ix ix_list (pv 2) (pe_call G_Draw hr1 (by rfl) m_Draw k_Draw b_Draw .nil pass0 (pa_cons (pv 0) (pa_cons pe_int pa_nil))) (fun _ _ => rfl)))
    (@pss_cons _ _ _ _ _ (ps_set (i := 4) scNam.nd rfl (Or.inl rfl) (pe_call G_Draw hr1 (by rfl) m_Draw k_Draw b_Draw .nil pass0 (pa_cons (pv 0) (pa_cons pe_int pa_nil))))
    (@pss_cons _ _ _ _ _ (ps_set (i := 5) scNam.nd rfl (Or.inl rfl) (pe_bm PySem.F.plainAttrs_str PySem.F.slot_str_join PySem.F.type_str_join mt_join pe_str (pa_cons (pe_comp ["_law_k", "_law_letters", "_law_state"] [none, some 1, some 0] (pi_range1 (by rfl) m_range (pa_cons (pe_op op_add pe_int (pe_call G_Draw hr1 (by rfl) m_Draw k_Draw b_Draw .nil pass0 (pa_cons (pv 0) (pa_cons pe_int pa_nil)))) pa_nil)) (fun _ _ _ _ => (pg_name (i := 0) (nd_Nam1) rfl (Or.inl rfl))) (fun _ _ _ _ => pf_nil) (fun _ _ _ _ => (pe_ix ix_str (pv 1) (pe_call G_Draw hr1 (by rfl) m_Draw k_Draw b_Draw .nil pass0 (pa_cons (pv 2) (pa_cons pe_int pa_nil))) (fun _ _ => rfl)))) pa_nil)))
    (@pss_cons _ _ _ _ _ (ps_post (ps_if (pt_cmpR op_eq (pv 4) pe_int (nomark _)) (pss_one (ps_set (i := 5) scNam.nd rfl (Or.inl rfl) (pe_op op_add_str (pv 3) (pe_ix ix_str (pv 1) (pe_call G_Draw hr1 (by rfl) m_Draw k_Draw b_Draw .nil pass0 (pa_cons (pv 0) (pa_cons pe_int pa_nil))) (fun _ _ => rfl))))) pss_nil))
    (@pss_cons _ _ _ _ _ (ps_post (ps_if (pt_cmpR op_eq (pv 4) pe_int (nomark _)) (pss_one (ps_set (i := 5) scNam.nd rfl (Or.inl rfl) (pe_ix ix_list (pe_lst (pa_cons (pe_slice sl_str (pv 3) (po_some pe_int) po_none) (pa_cons (pe_slice sl_str (pv 3) po_none (po_some (pe_un un_neg pe_int))) pa_nil))) (pe_call G_Draw hr1 (by rfl) m_Draw k_Draw b_Draw .nil pass0 (pa_cons (pv 0) (pa_cons pe_int pa_nil))) (fun _ _ => rfl)))) pss_nil))
    (@pss_cons _ _ _ _ _ (ps_if (pt_cmpR op_in_seq (pv 5) (pv 2) rfl) (pss_one (ps_set (i := 5) scNam.nd rfl (Or.inl rfl) (pe_op op_add_str (pe_slice sl_str (pv 5) po_none (po_some pe_int)) pe_str))) pss_nil)
    (@pss_one _ _ _ (ps_ret (pv 5))))))))))), ?_⟩
  refine ⟨by show 12 ≤ sizeLine; decide, fun lk hlk => ?_⟩
  have nk := D.ne hlk
  have s1 := same_new hlk (.lst [.str "kinds", .str "ladder", .str "flat", .str "choose", .str "first", .str "let", .str "tell", .str "when", .str "else", .str "times", .str "end", .str "of"])
  have h1 : upd H lk (.lst [.str "kinds", .str "ladder", .str "flat", .str "choose", .str "first", .str "let", .str "tell", .str "when", .str "else", .str "times", .str "end", .str "of"]) lk = some (.lst (taken.map V.str)) := upd_same
  generalize upd H lk (.lst [.str "kinds", .str "ladder", .str "flat", .str "choose", .str "first", .str "let", .str "tell", .str "when", .str "else", .str "times", .str "end", .str "of"]) = H1 at s1 h1 ⊢
  have D1 := D.same s1
  have f1 : Off [s] H H1 := .of s1
  refine ⟨_, rfl, _, rfl, s, 12, rfl, D1, by decide, by decide, fun x H2 x0 x1 D2 o2 => ?_⟩
  obtain ⟨v, hv, ha⟩ := at_nat (xs := taken.map V.str) x0 x1
  obtain ⟨w, rfl, hw⟩ := strs_at hv
  have mw := List.mem_of_getElem? hw
  refine ⟨lk, _, _, .str w, rfl, rfl, SqL.of (off_at o2 h1 nk), ha, ?_⟩
  refine ⟨_, rfl, s, 8, rfl, D2, by decide, by decide, fun f H3 g0 g1 D3 o3 => ?_⟩
  refine ⟨rfl, _, rfl, s, 8, rfl, D3, by decide, by decide, fun y H4 y0 y1 D4 o4 => ⟨_, _, rfl, rfl, 1 + y, rfl, by omega, by omega, ?_⟩⟩
  have f4 : Off [s] H1 H4 := o2.trans (o3.trans o4)
  clear o2 o3 o4 D2 D3
  refine comp_range (n := (1 + y).toNat) (fun i ys σ G => Dw G s ∧ Off [s] H1 G ∧ (∃ v, σ = [v, some (.str alpha), some (.ref s)]) ∧ ∃ zs : List Str, ys = zs.map V.str ∧ zs.length = i ∧ ∀ z ∈ zs, ∃ c ∈ sL alpha, z = ⟨#[c]⟩) (big4 (by omega)) ⟨D4, f4, ⟨_, rfl⟩, [], rfl, rfl, fun _ z => absurd z List.not_mem_nil⟩
    (by rintro i ys σ G ⟨_, _, _, zs, e, e2, _⟩; rw [e, List.length_map]; omega) ?_ ?_
  · rintro i ys σ G hi ⟨D5, f5, ⟨v, rfl⟩, zs, rfl, hl, hz⟩
    refine ⟨_, rfl, _, rfl, s, 26, rfl, D5, by decide, by decide, fun r H6 r0 r1 D6 o6 => ?_⟩
    obtain ⟨c, hc, mc⟩ := str_mem (z := alpha) r0 r1
    refine ⟨_, r, c, rfl, rfl, by decide, hc, D6, f5.trans o6, ⟨_, rfl⟩, zs ++ [⟨#[c]⟩], by rw [List.map_append]; rfl, by rw [List.length_append, hl]; rfl, fun z hz2 => ?_⟩
    rcases List.mem_append.mp hz2 with q | q
    · exact hz z q
    · exact ⟨c, mc, by simpa using q⟩
  rintro ys σ H7 ⟨D7, f7, _, zs, rfl, hl, hz⟩ p hp
  have hone : ∀ z ∈ zs, z.length = 1 := fun z hz2 => by
    obtain ⟨c, _, e⟩ := hz z hz2
    rw [e]; rfl
  have hsm : (zs.map (·.length)).sum = zs.length := by
    clear hz hl
    induction zs with
    | nil => rfl
    | cons z r ih => rw [List.map_cons, List.sum_cons, hone z List.mem_cons_self, ih fun y hy => hone y (List.mem_cons_of_mem _ hy), List.length_cons]; omega
  have fl : (zs.flatMap sL).length = zs.length ∧ ∀ c ∈ zs.flatMap sL, 97 ≤ c ∧ c ≤ 122 := by
    refine ⟨?_, fun c hc => ?_⟩
    · rw [← hsm]
      clear hz hl hsm hone
      induction zs with
      | nil => rfl
      | cons z r ih => rw [List.flatMap_cons, List.length_append, ih, List.map_cons, List.sum_cons]; rfl
    · obtain ⟨z, mz, hc⟩ := List.mem_flatMap.mp hc
      obtain ⟨d, md, e⟩ := hz z mz
      rw [e] at hc
      have : c = d := by simpa [sL] using hc
      rw [this]
      exact (alpha_mem d).mp md
  refine ⟨_, p, zs, rfl, rfl, SqL.of upd_same, by rw [hsm]; show zs.length + zs.length * 0 ≤ _; exact Nat.le_of_lt (big4 (by omega)), ?_⟩
  have L0 : LW (Txt.join "" zs) := by
    rw [join_fm]
    refine ⟨?_, ?_, fl.2⟩
    · rw [← sL_len, sL_mk, fl.1]; omega
    · rw [← sL_len, sL_mk, fl.1]; omega
  have D8 := D7.same (same_new hp (.lst (zs.map V.str)))
  have f8 := f7.trans (Off.of (S := [s]) (same_new hp (.lst (zs.map V.str))))
  generalize upd H7 p (.lst (zs.map V.str)) = H8 at D8 f8 ⊢
  generalize Txt.join "" zs = nm at L0 ⊢
  clear fl hsm hone hz hl
  refine ⟨fun σ G => ∃ z : Str, σ = [some (.ref s), some (.str alpha), some (.ref lk), some (.str w), some (.int f), some (.str z)] ∧ LW z ∧ Dw G s ∧ Off [s] H1 G, ?_, ?_⟩
  · refine ⟨_, rfl, rfl, _, rfl, ?_⟩
    by_cases c : V.int f = .int 0
    · refine iteP (decide_eq_true c) ⟨_, rfl, _, rfl, _, rfl, s, 26, rfl, D8, by decide, by decide, fun r H9 r0 r1 D9 o9 => ?_⟩
      obtain ⟨c, hc, mc⟩ := str_mem (z := alpha) r0 r1
      have lm := lw_more mw mc
      exact ⟨_, r, c, rfl, rfl, by decide, hc, _, _, rfl, rfl, Nat.le_of_lt (big4 (by have := lm.2.1; rw [strLen_append] at this; omega)), _, rfl, lm, D9, f8.trans o9⟩
    · exact iteN (fun q => c (of_decide_eq_true q)) ⟨nm, rfl, L0, D8, f8⟩
  rintro σ G ⟨n2, rfl, L2, D9, f9⟩
  refine ⟨fun σ G => ∃ z : Str, σ = [some (.ref s), some (.str alpha), some (.ref lk), some (.str w), some (.int f), some (.str z)] ∧ LW z ∧ Dw G s ∧ Off [s] H1 G, ?_, ?_⟩
  · refine ⟨_, rfl, rfl, _, rfl, ?_⟩
    by_cases c : V.int f = .int 1
    · have wl : w.length ≤ sizeLine := by
        have : ∀ w ∈ taken, w.length ≤ 7 := by decide +kernel
        exact Nat.le_of_lt (big4 (by have := this w mw; omega))
      refine iteP (decide_eq_true c) ⟨_, rfl, 1, rfl, w, rfl, wl, _, rfl, 1, rfl, -1, rfl, w, rfl, wl, by show 2 ≤ sizeLine; decide, fun l hl => ?_⟩
      have lw := lw_less mw
      generalize Txt.slice w (some 1) none = w1 at lw ⊢
      generalize Txt.slice w none (some (-1)) = w2 at lw ⊢
      have s2 := same_new hl (.lst [.str w1, .str w2])
      have g2 : upd G l (.lst [.str w1, .str w2]) l = some (.lst [.str w1, .str w2]) := upd_same
      have nl := D9.ne hl
      generalize upd G l (.lst [.str w1, .str w2]) = G2 at s2 g2 ⊢
      refine ⟨_, rfl, s, 2, rfl, D9.same s2, by decide, by decide, fun r H9 r0 r1 DA oA => ?_⟩
      have r2 : r = 0 ∨ r = 1 := by omega
      rcases r2 with rfl | rfl
      · exact ⟨l, _, _, .str w1, rfl, rfl, SqL.of (off_at oA g2 nl), at0, w1, rfl, lw.1, DA, f9.trans ((Off.of s2).trans oA)⟩
      · exact ⟨l, _, _, .str w2, rfl, rfl, SqL.of (off_at oA g2 nl), rfl, w2, rfl, lw.2, DA, f9.trans ((Off.of s2).trans oA)⟩
    · exact iteN (fun q => c (of_decide_eq_true q)) ⟨n2, rfl, L2, D9, f9⟩
  rintro σ G ⟨n3, rfl, L3, DA, fA⟩
  refine ⟨_, rfl, _, rfl, lk, _, rfl, .inl (SqL.of (off_at fA h1 nk)), rfl, flat_texts _, _, rfl, ?_⟩
  have ei : inV (V.str n3) (taken.map V.str) = decide (n3 ∈ taken) := inV_strs _ _
  by_cases c : n3 ∈ taken
  · refine iteP (ei.trans (decide_eq_true c)) ?_
    have ok := lw_kept c
    refine ⟨_, rfl, 7, rfl, n3, rfl, Nat.le_of_lt (big4 (by have := L3.2.1; omega)), _, _, rfl, rfl, Nat.le_of_lt (big4 (by have := Txt.slice_le n3 none (some 7); have := L3.2.1; show _ + 1 ≤ _; omega)), ?_⟩
    exact ⟨_, rfl, k _ _ ok DA (f1.trans fA)⟩
  · refine iteN (fun q => c (of_decide_eq_true (ei.symm.trans q))) ?_
    exact ⟨_, rfl, k _ _ (lw_ok L3 c) DA (f1.trans fA)⟩
end
end Mine
namespace Mine
open PySem L2
section
variable {P : Program} {w : World} {K : PySem.W.Frag} {mg : Str → Option Value} {base : Heap}
theorem scTrm : FnScope ["_law_state", "_law_names", "_law_room", "_law_deep", "_law_left", "_law_sign_here", "_law_one"] ["_law_state", "_law_names", "_law_room", "_law_deep"] (defScope sTrm) := ⟨rfl, rfl, rfl, by decide +kernel, rfl, by decide +kernel, by decide +kernel⟩
theorem ok_Trm (n : Nat) {f : Addr} {fd : FuncData} (F : Fun K "_law_term" "_law_term" sTrm f fd)
    {f_Trm : Addr} {d_Trm : FuncData} (G_Trm : FnOk P w K mg base CX0 (n + 1) f_Trm d_Trm ["_law_state", "_law_names", "_law_room", "_law_deep"] (spTm n)) (b_Trm : Binds K d_Trm ["_law_state", "_law_names", "_law_room", "_law_deep"] []) (k_Trm : PySem.W.keepIn K (.ref f_Trm) = true) (m_Trm : mg "_law_term" = some (.ref f_Trm))
    {f_Draw : Addr} {d_Draw : FuncData} (G_Draw : FnOk P w K mg base CX0 (1) f_Draw d_Draw ["_law_state", "_law_many"] spDraw) (b_Draw : Binds K d_Draw ["_law_state", "_law_many"] []) (k_Draw : PySem.W.keepIn K (.ref f_Draw) = true) (m_Draw : mg "_law_draw" = some (.ref f_Draw))
    (m_len : mg "len" = none) :
    FnOk P w K mg base CX0 (n + 1 + 1) f fd ["_law_state", "_law_names", "_law_room", "_law_deep"] (spTm (n + 1)) := by
  refine F.ok scTrm (fun vs H Q E h => ?_) (fun cdv A outer s H vs Q E hr h => ?_)
  · obtain ⟨s, nl, zs, room, deep, rfl, _⟩ := h
    rfl
  obtain ⟨s, nl, zs, room, deep, rfl, D, hn, nn, z3, zok, r1, r30, d0, dn, k⟩ := h
  have hu := hu_of hr
  have hr1 : Room 1 _ := hr.mono (by omega)
  have hr_Trm : Room (n + 1) _ := hr.mono (by omega)
  refine ⟨_, (pss_cons (ps_if (pt_post (PW.pt (pw_or (pt_cmpR op_lt (pv 2) pe_int (nomark _)) (pw_or (pt_cmpR op_lt (pv 3) pe_int (nomark _)) (pw_or1 (pt_cmpR op_eq (pe_call G_Draw hr1 (by rfl) m_Draw k_Draw b_Draw .nil pass0 (pa_cons (pv 0) (pa_cons pe_int pa_nil))) pe_int (nomark _))))))) (pss_cons (ps_if (pt_post (PW.pt (pw_and (pt_cmpR op_gt (pe_callB call_len_seq (by rfl) m_len PySem.boot_len (pa_cons (pv 1) pa_nil)) pe_int (nomark _)) (pw_and1 (pt_cmpR op_eq (pe_call G_Draw hr1 (by rfl) m_Draw k_Draw b_Draw .nil pass0 (pa_cons (pv 0) (pa_cons pe_int pa_nil))) pe_int (nomark _)))))) (pss_one (ps_ret (pe_tup (pa_cons pe_str (pa_cons (pe_ix ix_list (pv 1) (pe_call G_Draw hr1 (by rfl) m_Draw k_Draw b_Draw .nil pass0 (pa_cons (pv 0) (pa_cons (pe_callB call_len_seq (by rfl) m_len PySem.boot_len (pa_cons (pv 1) pa_nil)) pa_nil))) (fun _ _ => rfl)) pa_nil))))) pss_nil)
    (pss_one (ps_ret (pe_tup (pa_cons pe_str (pa_cons (pe_call G_Draw hr1 (by rfl) m_Draw k_Draw b_Draw .nil pass0 (pa_cons (pv 0) (pa_cons (pe_ix ix_list (pe_lst (pa_cons pe_int (pa_cons pe_int (pa_cons pe_int pa_nil)))) (pe_call G_Draw hr1 (by rfl) m_Draw k_Draw b_Draw .nil pass0 (pa_cons (pv 0) (pa_cons pe_int pa_nil))) (fun _ _ => rfl)) pa_nil))) pa_nil)))))) pss_nil)
    (pss_cons (ps_set (i := 4) scTrm.nd rfl (Or.inl rfl) (pe_op op_add pe_int (pe_call G_Draw hr1 (by rfl) m_Draw k_Draw b_Draw .nil pass0 (pa_cons (pv 0) (pa_cons (pe_op op_sub (pv 2) pe_int) pa_nil)))))
    (pss_cons (ps_set (i := 5) scTrm.nd rfl (Or.inl rfl) (pe_ix ix_str pe_str (pe_call G_Draw hr1 (by rfl) m_Draw k_Draw b_Draw .nil pass0 (pa_cons (pv 0) (pa_cons pe_int pa_nil))) (fun _ _ => rfl)))
    (pss_cons (ps_set (i := 6) scTrm.nd rfl (Or.inl rfl) (pe_call G_Trm hr_Trm (by rfl) m_Trm k_Trm b_Trm .nil pass0 (pa_cons (pv 0) (pa_cons (pv 1) (pa_cons (pv 4) (pa_cons (pe_op op_sub (pv 3) pe_int) pa_nil))))))
    (pss_one (ps_ret (pe_tup (pa_cons pe_str (pa_cons (pv 5) (pa_cons (pv 6) (pa_cons (pe_call G_Trm hr_Trm (by rfl) m_Trm k_Trm b_Trm .nil pass0 (pa_cons (pv 0) (pa_cons (pv 1) (pa_cons (pe_op op_sub (pe_op op_sub (pv 2) pe_int) (pv 4)) (pa_cons (pe_op op_sub (pv 3) pe_int) pa_nil))))) pa_nil))))))))))), ?_⟩
  refine ⟨fun b G => Dw G s ∧ Off [s] H G ∧ (b = false → 3 ≤ room ∧ 1 ≤ deep), ?_, ?_⟩
  · refine ⟨_, rfl, _, _, rfl, rfl, _, rfl, ?_⟩
    by_cases c1 : room < 3
    · exact iteP (decide_eq_true c1) ⟨D, Off.refl _, fun z => nomatch z⟩
    · refine iteN (by simpa using c1) ⟨_, rfl, _, _, rfl, rfl, _, rfl, ?_⟩
      by_cases c2 : deep < 1
      · exact iteP (decide_eq_true c2) ⟨D, Off.refl _, fun z => nomatch z⟩
      · exact iteN (by simpa using c2) ⟨_, rfl, s, 3, rfl, D, by decide, by decide, fun x H1 x0 x1 D1 o1 => ⟨rfl, _, rfl, D1, o1, fun _ => by omega⟩⟩
  rintro b G ⟨D1, o1, hb⟩
  have hn1 := off_at o1 hn nn
  cases b with
  | false =>
    refine iteN (by simp) ?_
    obtain ⟨c1, c2⟩ := hb rfl
    cases n with
    | zero => exact absurd c2 (by omega)
    | succ n =>
    refine ⟨_, rfl, _, rfl, _, _, rfl, rfl, s, room - 2, rfl, D1, by omega, by omega, fun x H2 x0 x1 D2 o2 => ⟨_, _, rfl, rfl, ?_⟩⟩
    refine ⟨_, rfl, s, 5, rfl, D2, by decide, by decide, fun y H3 y0 y1 D3 o3 => ?_⟩
    obtain ⟨c, hc, mc⟩ := str_mem (z := "+-*<=") y0 y1
    have sc : c ∈ sg := by
      have : ∀ c ∈ sL "+-*<=", c ∈ sg := by decide +kernel
      exact this c mc
    have hn3 := off_at o3 (off_at o2 hn1 nn) nn
    refine ⟨_, y, c, rfl, rfl, by decide, hc, ?_⟩
    refine ⟨_, rfl, _, rfl, _, rfl, _, rfl, _, _, rfl, rfl, s, nl, zs, 1 + x, deep - 1, rfl, D3, hn3, nn, z3, zok, by omega, by omega, by omega, by omega, fun T1 p1 H4 ok1 h1 dp1 np1 D4 o4 => ?_⟩
    have hn4 := off_at o4 hn3 nn
    refine ⟨_, rfl, _, rfl, _, rfl, _, rfl, _, rfl, _, _, rfl, rfl, _, rfl, _, _, rfl, rfl, _, rfl, _, _, rfl, rfl, s, nl, zs, room - 1 - (1 + x), deep - 1, rfl, D4, hn4, nn, z3, zok, by omega, by omega, by omega, by omega, fun T2 p2 H5 ok2 h2 dp2 np2 D5 o5 => ⟨by show 4 ≤ sizeLine; decide, fun p hp => ?_⟩⟩
    have s6 := same_new hp (.tup [.str "op", .str ⟨#[c]⟩, .ref p1, .ref p2])
    refine k (.op c T1 T2) p _ ⟨sc, ok1, ok2⟩ ⟨p1, p2, upd_same, h1.ts ((D4.ts o5).trans (.of s6)), h2.ts (.of s6)⟩ (by simp only [dep]; omega) (by simp only [np]; omega) (D5.same s6) (o1.trans (o2.trans (o3.trans (o4.trans (o5.trans (.of s6))))))
  | true =>
    refine iteP rfl ?_
    refine ⟨fun b G' => Dw G' s ∧ Off [s] H G', ?_, ?_⟩
    · refine ⟨_, rfl, nl, _, rfl, .inl (SqL.of hn1), _, _, rfl, rfl, _, rfl, ?_⟩
      refine iteP (decide_eq_true (by rw [List.length_map]; omega)) ⟨_, rfl, s, 2, rfl, D1, by decide, by decide, fun x H2 x0 x1 D2 o2 => ⟨rfl, _, rfl, D2, o1.trans o2⟩⟩
    rintro b G2 ⟨D2, o2⟩
    have hn2 := off_at o2 hn nn
    cases b with
    | true =>
      refine iteP rfl ?_
      refine ⟨_, rfl, _, rfl, _, rfl, nl, _, rfl, .inl (SqL.of hn2), s, _, rfl, D2, by rw [List.length_map]; omega, by rw [List.length_map]; omega, fun x H3 x0 x1 D3 o3 => ?_⟩
      obtain ⟨v, hv, ha⟩ := at_nat x0 x1
      obtain ⟨y, rfl, hy⟩ := strs_at hv
      have ok := zok y (List.mem_of_getElem? hy)
      refine ⟨nl, _, _, .str y, rfl, rfl, SqL.of (off_at o3 hn2 nn), ha, by show 2 ≤ sizeLine; decide, fun p hp => ?_⟩
      have s4 := same_new hp (.tup [.str "name", .str y])
      refine k (.nam (sL y)) p _ ok ?_ (by simp only [dep]; omega) (by simp only [np]; omega) (D3.same s4) (o2.trans (o3.trans (.of s4)))
      show upd H3 p _ p = some (.tup [.str "name", .str (mkS (sL y))])
      rw [mk_sL]
      exact upd_same
    | false =>
      refine iteN (by simp) ?_
      refine ⟨_, rfl, by show 3 ≤ sizeLine; decide, fun l0 hl0 => ?_⟩
      have n0 := D2.ne hl0
      have s3 := same_new hl0 (.lst [.int 10, .int 100, .int 1000])
      have h3 : upd G2 l0 (.lst [.int 10, .int 100, .int 1000]) l0 = some (.lst [.int 10, .int 100, .int 1000]) := upd_same
      generalize upd G2 l0 (.lst [.int 10, .int 100, .int 1000]) = H3 at s3 h3 ⊢
      refine ⟨_, rfl, s, 3, rfl, D2.same s3, by decide, by decide, fun x H4 x0 x1 D4 o4 => ?_⟩
      have h4 := off_at o4 h3 n0
      have x3 : x = 0 ∨ x = 1 ∨ x = 2 := by omega
      obtain ⟨w, hw, hc⟩ : ∃ w : Int, atI [V.int 10, V.int 100, V.int 1000] x = some (.int w) ∧ 10 ≤ w ∧ w ≤ 1000 := by
        rcases x3 with rfl | rfl | rfl
        · exact ⟨10, rfl, by decide⟩
        · exact ⟨100, rfl, by decide⟩
        · exact ⟨1000, rfl, by decide⟩
      refine ⟨l0, _, _, .int w, rfl, rfl, SqL.of h4, hw, s, w, rfl, D4, by omega, by omega, fun y H5 y0 y1 D5 o5 => ⟨by show 2 ≤ sizeLine; decide, fun p hp => ?_⟩⟩
      have s6 := same_new hp (.tup [.str "num", .int y])
      refine k (.num y.toNat) p _ (show y.toNat ≤ 999 by omega) ?_ (by simp only [dep]; omega) (by simp only [np]; omega) (D5.same s6) (o2.trans ((Off.of s3).trans (o4.trans (o5.trans (.of s6)))))
      show upd H5 p _ p = some (.tup [.str "num", .int ((y.toNat : Nat) : Int)])
      rw [Int.toNat_of_nonneg y0]
      exact upd_same
end
end Mine
namespace Mine
open PySem L2
section
variable {P : Program} {w : World} {K : PySem.W.Frag} {mg : Str → Option Value} {base : Heap}
theorem scTTx : FnScope ["_law_term_here", "_law_two"] ["_law_term_here"] (defScope sTTx) := ⟨rfl, rfl, rfl, by decide +kernel, rfl, by decide +kernel, by decide +kernel⟩
theorem ok_TTx (n : Nat) {f : Addr} {fd : FuncData} (F : Fun K "_law_term_text" "_law_term_text" sTTx f fd)
    {f_TTx : Addr} {d_TTx : FuncData} (G_TTx : FnOk P w K mg base CX0 (n + 1) f_TTx d_TTx ["_law_term_here"] (spTT n)) (b_TTx : Binds K d_TTx ["_law_term_here"] []) (k_TTx : PySem.W.keepIn K (.ref f_TTx) = true) (m_TTx : mg "_law_term_text" = some (.ref f_TTx))
    (m_str : mg "str" = none) :
    FnOk P w K mg base CX0 (n + 1 + 1) f fd ["_law_term_here"] (spTT (n + 1)) := by
  refine F.ok scTTx (fun vs H Q E h => ?_) (fun cdv A outer s H vs Q E hr h => ?_)
  · obtain ⟨p, T, rfl, _⟩ := h
    rfl
  obtain ⟨p, T, rfl, ph, ok, dn, hl, k⟩ := h
  have hu := hu_of hr
  have hr1 : Room 1 _ := hr.mono (by omega)
  have hr_TTx : Room (n + 1) _ := hr.mono (by omega)
  refine ⟨_, (pss_cons (ps_if (pt_cmpR op_eq (pe_ix ix_tup (pv 0) pe_int (fun _ _ => rfl)) pe_str (nomark _)) (pss_cons (ps_set (i := 1) scTTx.nd rfl (Or.inl rfl) (pe_op op_add_str (pe_op op_add_str (pe_call G_TTx hr_TTx (by rfl) m_TTx k_TTx b_TTx .nil pass0 (pa_cons (pe_ix ix_tup (pv 0) pe_int (fun _ _ => rfl)) pa_nil)) pe_str) (pe_call G_TTx hr_TTx (by rfl) m_TTx k_TTx b_TTx .nil pass0 (pa_cons (pe_ix ix_tup (pv 0) pe_int (fun _ _ => rfl)) pa_nil))))
    (pss_one (ps_ret (pe_op op_add_str (pe_op op_add_str (pe_op op_add_str (pe_op op_add_str pe_str (pe_ix ix_tup (pv 0) pe_int (fun _ _ => rfl))) pe_str) (pv 1)) pe_str)))) pss_nil)
    (pss_one (ps_ret (pe_callTy call_str1 (by rfl) m_str PyProof.Rows.boot_str (pa_cons (pe_ix ix_tup (pv 0) pe_int (fun _ _ => rfl)) pa_nil))))), ?_⟩
  cases T with
  | num m =>
    have ph : H p = some (.tup [.str "num", .int (m : Int)]) := ph
    refine ⟨_, rfl, p, _, _, .str "num", rfl, rfl, SqT.of ph, at0, rfl, _, rfl, iteN (fun z => wNO (of_decide_eq_true z)) ?_⟩
    refine ⟨_, rfl, p, _, _, .int (m : Int), rfl, rfl, SqT.of ph, rfl, .inl ⟨(m : Int), rfl, log_ok ok, ?_⟩⟩
    have e : mkS (shw (.num m)) = Str.ofString (toString (m : Int)) := sL_inj (dg_text ok).symm
    rw [e] at k
    exact k
  | nam x =>
    have ph : H p = some (.tup [.str "name", .str (mkS x)]) := ph
    refine ⟨_, rfl, p, _, _, .str "name", rfl, rfl, SqT.of ph, at0, rfl, _, rfl, iteN (fun z => wMO (of_decide_eq_true z)) ?_⟩
    exact ⟨_, rfl, p, _, _, .str (mkS x), rfl, rfl, SqT.of ph, rfl, .inr ⟨mkS x, rfl, k⟩⟩
  | op s a b =>
    obtain ⟨qa, qb, ph, ha, hb⟩ := ph
    refine ⟨_, rfl, p, _, _, .str "op", rfl, rfl, SqT.of ph, at0, rfl, _, rfl, iteP (decide_eq_true rfl) ?_⟩
    have lo : (shw (.op s a b)).length = (shw a).length + (shw b).length + 5 := by simp only [shw, List.length_cons, List.length_append, List.length_nil]; omega
    unfold dep at dn
    cases n with
    | zero => exact absurd dn (by have : 1 ≤ dep a := by cases a <;> simp [dep]
                                  omega)
    | succ n =>
    have la : (mkS (shw a)).length = (shw a).length := rfl
    have lb : (mkS (shw b)).length = (shw b).length := rfl
    have l1 : (" " : Str).length = 1 := by decide
    have l2 : ("(" : Str).length = 1 := by decide
    have l3 : (")" : Str).length = 1 := by decide
    have l4 : (⟨#[s]⟩ : Str).length = 1 := rfl
    refine ⟨_, rfl, p, _, _, .ref qa, rfl, rfl, SqT.of ph, rfl, qa, a, rfl, ha, ok.2.1, by omega, by omega, _, _, rfl, rfl, Nat.le_of_lt (big4 (by omega)), ?_⟩
    refine ⟨_, rfl, p, _, _, .ref qb, rfl, rfl, SqT.of ph, rfl, qb, b, rfl, hb, ok.2.2, by omega, by omega, _, _, rfl, rfl, Nat.le_of_lt (big4 (by rw [strLen_append]; omega)), ?_⟩
    refine ⟨_, rfl, p, _, _, .str ⟨#[s]⟩, rfl, rfl, SqT.of ph, rfl, _, _, rfl, rfl, Nat.le_of_lt (big4 (by omega)), _, _, rfl, rfl, Nat.le_of_lt (big4 (by rw [strLen_append]; omega)), ?_⟩
    refine ⟨_, rfl, _, _, rfl, rfl, Nat.le_of_lt (big4 (by simp only [strLen_append]; omega)), _, _, rfl, rfl, Nat.le_of_lt (big4 (by simp only [strLen_append]; omega)), ?_⟩
    have e : "(" ++ ⟨#[s]⟩ ++ " " ++ (mkS (shw a) ++ " " ++ mkS (shw b)) ++ ")" = mkS (shw (.op s a b)) := by
      apply sL_inj
      have e1 : sL "(" = [40] := by decide +kernel
      have e2 : sL " " = [32] := by decide +kernel
      have e3 : sL ")" = [41] := by decide +kernel
      have e4 : sL ⟨#[s]⟩ = [s] := rfl
      simp only [sL_app, sL_mk, e1, e2, e3, e4, shw]
      simp
    rw [e]
    exact k
end
end Mine
namespace Mine
open PySem L2
section
variable {P : Program} {w : World} {K : PySem.W.Frag} {mg : Str → Option Value} {base : Heap}
theorem nd_Alk1 : (["_law_one", "_law_other"] : List Str).Nodup := by decide +kernel
theorem scAlk : FnScope ["_law_found", "_law_due"] ["_law_found", "_law_due"] (defScope sAlk) := ⟨rfl, rfl, rfl, by decide +kernel, rfl, by decide +kernel, by decide +kernel⟩
theorem ok_Alk (n : Nat) {f : Addr} {fd : FuncData} (F : Fun K "_law_alike" "_law_alike" sAlk f fd)
    {f_Alk : Addr} {d_Alk : FuncData} (G_Alk : FnOk P w K mg base CX0 (n + 1) f_Alk d_Alk ["_law_found", "_law_due"] (spAl n)) (b_Alk : Binds K d_Alk ["_law_found", "_law_due"] []) (k_Alk : PySem.W.keepIn K (.ref f_Alk) = true) (m_Alk : mg "_law_alike" = some (.ref f_Alk))
    (m_isinstance : mg "isinstance" = none) (m_tuple : mg "tuple" = none) (m_str : mg "str" = none) (m_all : mg "all" = none) (m_int : mg "int" = none) (m_bool : mg "bool" = none) (m_len : mg "len" = none) (m_zip : mg "zip" = none) :
    FnOk P w K mg base CX0 (n + 1 + 1) f fd ["_law_found", "_law_due"] (spAl (n + 1)) := by
  refine F.ok scAlk (fun vs H Q E h => ?_) (fun cdv A outer s H vs Q E hr h => ?_)
  · obtain ⟨x, y, rfl, _⟩ := h
    rfl
  obtain ⟨x, y, rfl, al, k⟩ := h
  have hu := hu_of hr
  have hr1 : Room 1 _ := hr.mono (by omega)
  have hr_Alk : Room (n + 1) _ := hr.mono (by omega)
  refine ⟨_, (pss_cons (ps_if (pt_val (pe_callB call_isinst (by rfl) m_isinstance PyProof.Rows.boot_isinstance (pa_cons (pv 1) (pa_cons (pe_bltn (v := .ty "tuple") (by rfl) m_tuple PyProof.Rows.boot_tuple rfl) pa_nil)))) (pss_cons (ps_if (pt_post (PW.pt (pw_or (pt_not (pt_val (pe_callB call_isinst (by rfl) m_isinstance PyProof.Rows.boot_isinstance (pa_cons (pv 0) (pa_cons (pe_bltn (v := .ty "tuple") (by rfl) m_tuple PyProof.Rows.boot_tuple rfl) pa_nil))))) (pw_or1 (pt_cmpR op_ne (pe_callB call_len_seq (by rfl) m_len PySem.boot_len (pa_cons (pv 0) pa_nil)) (pe_callB call_len_seq (by rfl) m_len PySem.boot_len (pa_cons (pv 1) pa_nil)) (nomark _)))))) (pss_one (ps_ret pe_bl)) pss_nil)
    (pss_one (ps_ret (pe_callB call_all (by rfl) m_all PyProof.Rows.boot_all (pa_cons (pe_comp ["_law_one", "_law_other"] [none, none] (pi_zip (by rfl) m_zip (pa_cons (pv 0) (pa_cons (pv 1) pa_nil))) (fun _ _ _ _ => (pgtK K (n := 2) rfl (pgs_cons (pg_name (i := 0) (nd_Alk1) rfl (Or.inl rfl)) (pgs_cons (pg_name (i := 1) (nd_Alk1) rfl (Or.inl rfl)) pgs_nil)))) (fun _ _ _ _ => pf_nil) (fun _ _ _ _ => (pe_call G_Alk hr_Alk (by rfl) m_Alk k_Alk b_Alk .nil pass0 (pa_cons (pv 0) (pa_cons (pv 1) pa_nil))))) pa_nil))))) pss_nil)
    (pss_cons (ps_if (pt_val (pe_callB call_isinst (by rfl) m_isinstance PyProof.Rows.boot_isinstance (pa_cons (pv 1) (pa_cons (pe_bltn (v := .ty "str") (by rfl) m_str PyProof.Rows.boot_str rfl) pa_nil)))) (pss_one (ps_ret (pe_and (pe_callB call_isinst (by rfl) m_isinstance PyProof.Rows.boot_isinstance (pa_cons (pv 0) (pa_cons (pe_bltn (v := .ty "str") (by rfl) m_str PyProof.Rows.boot_str rfl) pa_nil))) (pe_one (pe_cmpR op_eq (pv 0) (pv 1) (nomark _)))))) pss_nil)
    (pss_one (ps_ret (pe_and (pe_callB call_isinst (by rfl) m_isinstance PyProof.Rows.boot_isinstance (pa_cons (pv 0) (pa_cons (pe_bltn (v := .ty "int") (by rfl) m_int PyProof.Rows.boot_int rfl) pa_nil))) (pe_and (pe_not (pe_callB call_isinst (by rfl) m_isinstance PyProof.Rows.boot_isinstance (pa_cons (pv 0) (pa_cons (pe_bltn (v := .ty "bool") (by rfl) m_bool PyProof.Rows.boot_bool rfl) pa_nil)))) (pe_one (pe_cmpR op_eq (pv 0) (pv 1) (nomark _))))))))), ?_⟩
  rcases al with ⟨a, rfl, rfl⟩ | ⟨i, rfl, rfl⟩ | ⟨p, q, xs, ys, rfl, rfl, hp, hq, ll, l4, al⟩
  · refine ⟨_, rfl, _, "tuple", _, false, rfl, .str _, rfl, _, rfl, iteN (by decide) ?_⟩
    refine ⟨_, rfl, _, "str", _, true, rfl, .str _, rfl, _, rfl, iteP rfl ?_⟩
    refine ⟨_, rfl, _, "str", _, true, rfl, .str _, rfl, _, rfl, ?_⟩
    refine iteP rfl ⟨_, rfl, _, rfl, rfl, ?_⟩
    have e : decide (V.str a = V.str a) = true := decide_eq_true rfl
    rw [e]
    exact k _ (Same.refl _)
  · refine ⟨_, rfl, _, "tuple", _, false, rfl, .int _, rfl, _, rfl, iteN (by decide) ?_⟩
    refine ⟨_, rfl, _, "str", _, false, rfl, .int _, rfl, _, rfl, iteN (by decide) ?_⟩
    refine ⟨_, rfl, _, "int", _, true, rfl, .int _, rfl, _, rfl, ?_⟩
    refine iteP rfl ⟨_, rfl, _, "bool", _, false, rfl, .int _, rfl, _, rfl, _, rfl, ?_⟩
    refine iteP rfl ⟨_, rfl, _, rfl, rfl, ?_⟩
    have e : decide (V.int i = V.int i) = true := decide_eq_true rfl
    rw [e]
    exact k _ (Same.refl _)
  · refine ⟨_, rfl, _, "tuple", _, true, rfl, .tup hq, rfl, _, rfl, iteP rfl ?_⟩
    refine ⟨fun b G => G = H ∧ b = false, ?_, ?_⟩
    · refine ⟨_, rfl, _, "tuple", _, true, rfl, .tup hp, rfl, _, rfl, ?_⟩
      refine iteN (by decide) ⟨_, rfl, p, _, rfl, .inr (SqT.of hp), _, rfl, q, _, rfl, .inr (SqT.of hq), rfl, _, rfl, rfl, ?_⟩
      rw [ll]; simp
    rintro b G ⟨rfl, rfl⟩
    refine iteN (by decide) ?_
    refine ⟨_, rfl, _, rfl, p, q, rfl, ⟨_, SqT.of hp⟩, ⟨_, SqT.of hq⟩, comp_zip (K := K) (a := p) (b := q) (xs := xs) (ys := ys) (fun i zs σ G' => Same G G' ∧ (∃ u v, σ = [u, v]) ∧ zs = (List.replicate i true).map V.bl)
      (big4 (by omega)) ll ⟨Same.refl _, ⟨_, _, rfl⟩, rfl⟩ (by rintro i zs σ G' ⟨_, _, e⟩; rw [e, List.length_map, List.length_replicate]; exact Nat.le_refl _) (by rintro i zs σ G' _ ⟨s2, _, _⟩; exact ⟨SqT.of (s2 _ _ hp), SqT.of (s2 _ _ hq)⟩) ?_ ?_⟩
    · rintro i u v zs σ G' t hu hv ⟨s2, ⟨u0, v0, rfl⟩, rfl⟩ ht
      have s3 := s2.trans (same_new ht (.tup [u, v]))
      have h3 : upd G' t (.tup [u, v]) t = some (.tup [u, v]) := upd_same
      generalize upd G' t (.tup [u, v]) = G3 at s3 h3 ⊢
      have a1 := (al i u v hu hv).ts (.of s3)
      cases n with
      | zero => exact a1.elim
      | succ n =>
      refine ⟨t, _, rfl, SqT.of h3, rfl, _, _, rfl, _, _, rfl, rfl, ?_⟩
      refine ⟨_, rfl, _, rfl, u, v, rfl, a1, fun G4 s4 => ⟨s3.trans s4, ⟨_, _, rfl⟩, ?_⟩⟩
      rw [List.replicate_succ', List.map_append]; rfl
    · rintro zs σ G' ⟨s2, _, rfl⟩ l hl
      refine ⟨l, List.replicate xs.length true, rfl, SqL.of upd_same, ?_⟩
      have e : (List.replicate xs.length true).all id = true := by simp
      rw [e]
      exact k _ (s2.trans (same_new hl _))
end
end Mine
namespace Mine
open PySem L2
section
variable {P : Program} {w : World} {K : PySem.W.Frag} {mg : Str → Option Value} {base : Heap}
theorem scPrd : FnScope ["_law_text", "_law_found", "_law_deep", "_law_sign_here"] ["_law_text"] (defScope sPrd) := ⟨rfl, rfl, rfl, by decide +kernel, rfl, by decide +kernel, by decide +kernel⟩
theorem ok_Prd {f : Addr} {fd : FuncData} (F : Fun K "_law_parted" "_law_parted" sPrd f fd)
    (m_int : mg "int" = none) :
    FnOk P w K mg base CX0 (1) f fd ["_law_text"] spPart := by
  refine F.ok scPrd (fun vs H Q E h => ?_) (fun cdv A outer s H vs Q E hr h => ?_)
  · obtain ⟨z, rfl, _⟩ := h
    rfl
  obtain ⟨z, rfl, hl, k⟩ := h
  have hu := hu_of hr
  refine ⟨_, (pss_cons (ps_set (i := 1) scPrd.nd rfl (Or.inl rfl) (pe_lst (pa_cons pe_str pa_nil)))
    (pss_cons (ps_set (i := 2) scPrd.nd rfl (Or.inl rfl) pe_int)
    (pss_cons (ps_for PassesOwn.never rfl (pi_str (pv 0)) (pg_name (i := 3) scPrd.nd rfl (Or.inl rfl))
    (pss_cons (ps_set (i := 2) scPrd.nd rfl (Or.inl rfl) (pe_op op_sub (pe_op op_add (pv 2) (pe_callTy call_int1 (by rfl) m_int PyProof.Rows.boot_int (pa_cons (pe_cmpR op_eq (pv 3) pe_str (nomark _)) pa_nil))) (pe_callTy call_int1 (by rfl) m_int PyProof.Rows.boot_int (pa_cons (pe_cmpR op_eq (pv 3) pe_str (nomark _)) pa_nil))))
    (pss_cons (ps_if (pt_cmpR op_lt (pv 2) pe_int (nomark _)) (pss_one (ps_ret (pe_lst pa_nil))) pss_nil)
    (pss_one (ps_if (pt_post (PW.pt (pw_and (pt_cmpR op_eq (pv 3) pe_str (nomark _)) (pw_and1 (pt_cmpR op_eq (pv 2) pe_int (nomark _)))))) (pss_one (ps_expr (pe_bm PySem.F.plainAttrs_list PySem.F.slot_list_append PySem.F.type_list_append mt_append (pv 1) (pa_cons pe_str pa_nil)))) (pss_one (ps_asg (pe_op op_add_str (pe_ix ix_list (pv 1) (pe_un un_neg pe_int) (fun _ _ => rfl)) (pv 3)) (pg_sub (pv 1) (pe_un un_neg pe_int) set_list))))))))
    (pss_one (ps_ret (pv 1)))))), ?_⟩
  refine ⟨by show 1 ≤ sizeLine; decide, fun lf hlf => ?_⟩
  have s1 := same_new hlf (.lst [.str ""])
  have h1 : upd H lf (.lst [.str ""]) lf = some (.lst [.str ""]) := upd_same
  generalize upd H lf (.lst [.str ""]) = H1 at s1 h1 ⊢
  have e0 : mkS [] = "" := by decide +kernel
  have k1 : ∀ c : Nat, decide (V.str ⟨#[c]⟩ = V.str "(") = decide (c = 40) := fun c => decide_eq_decide.mpr ⟨fun q => by injection q with q; have := congrArg sL q; exact (List.cons.inj this).1, fun q => by rw [q]; decide +kernel⟩
  have k2 : ∀ c : Nat, decide (V.str ⟨#[c]⟩ = V.str ")") = decide (c = 41) := fun c => decide_eq_decide.mpr ⟨fun q => by injection q with q; have := congrArg sL q; exact (List.cons.inj this).1, fun q => by rw [q]; decide +kernel⟩
  have k3 : ∀ c : Nat, decide (V.str ⟨#[c]⟩ = V.str " ") = decide (c = 32) := fun c => decide_eq_decide.mpr ⟨fun q => by injection q with q; have := congrArg sL q; exact (List.cons.inj this).1, fun q => by rw [q]; decide +kernel⟩
  refine ⟨_, rfl, z, rfl, for_strA (x := z) (fun i σ G => ∃ (d : Nat) (done : List (List Nat)) (cur : List Nat) (v3 : Option V), σ = [some (.str z), some (.ref lf), some (.int (d : Int)), v3] ∧ Same H G ∧ G lf = some (.lst ((done ++ [cur]).map fun x => V.str (mkS x))) ∧ (prt (sL z) 0 [] [] = prt ((sL z).drop i) d done cur) ∧ done.length ≤ i ∧ cur.length ≤ i ∧ d ≤ i)
    ⟨0, [], [], none, rfl, s1, by rw [h1, ← e0]; rfl, rfl, Nat.le_refl _, Nat.le_refl _, Nat.le_refl _⟩ ?_ ?_⟩
  · rintro i c σ G hc ⟨d, done, cur, v3, rfl, s2, h2, pe, dl, cl, di⟩
    have hc2 := cps_at hc
    have il : i < (sL z).length := (List.getElem?_eq_some_iff.mp hc2).1
    have zl : (sL z).length ≤ 1000000 := hl
    have dr : (sL z).drop i = c :: (sL z).drop (i + 1) := by
      rw [List.drop_eq_getElem_cons il]
      congr 1
      exact (List.getElem?_eq_some_iff.mp hc2).2
    rw [dr] at pe
    refine ⟨_, rfl, _, rfl, rfl, .inr ⟨_, rfl, _, _, rfl, rfl, _, rfl, rfl, .inr ⟨_, rfl, _, _, rfl, rfl, ?_⟩⟩⟩
    rw [k1, k2]
    have unf : prt (c :: (sL z).drop (i + 1)) d done cur = (if c = 40 then prt ((sL z).drop (i + 1)) (d + 1) done (cur ++ [c]) else if c = 41 then (if d = 0 then none else prt ((sL z).drop (i + 1)) (d - 1) done (cur ++ [c])) else if c = 32 ∧ d = 0 then prt ((sL z).drop (i + 1)) d (done ++ [cur]) [] else prt ((sL z).drop (i + 1)) d done (cur ++ [c])) := rfl
    rw [unf] at pe
    have hL : (done ++ [cur]).map (fun x => V.str (mkS x)) = done.map (fun x => V.str (mkS x)) ++ [.str (mkS cur)] := by simp
    rw [hL] at h2
    refine ⟨_, rfl, _, _, rfl, rfl, _, rfl, ?_⟩
    by_cases neg : c = 41 ∧ d = 0
    · rw [if_neg (by omega), if_pos neg.1, if_pos neg.2] at pe
      refine iteP (decide_eq_true ?_) ⟨Nat.zero_le _, fun l hl2 => k l _ (s2.trans (same_new hl2 _)) ?_⟩
      · rw [decide_eq_false (show ¬ c = 40 by omega), decide_eq_true neg.1, neg.2]; decide
      · have e : parts (sL z) = [] := by unfold parts; rw [pe]; rfl
        rw [e, upd_same]; rfl
    obtain ⟨d2, hD, hle, hp⟩ : ∃ d2 : Nat, ((d : Int) + (if decide (c = 40) = true then 1 else 0) - (if decide (c = 41) = true then 1 else 0) : Int) = (d2 : Int) ∧ d2 ≤ i + 1 ∧ prt (sL z) 0 [] [] = if c = 32 ∧ d2 = 0 then prt ((sL z).drop (i + 1)) d2 (done ++ [cur]) [] else prt ((sL z).drop (i + 1)) d2 done (cur ++ [c]) := by
      by_cases c4 : c = 40
      · rw [if_pos c4] at pe
        refine ⟨d + 1, ?_, by omega, by rw [if_neg (by omega)]; exact pe⟩
        rw [decide_eq_true c4, decide_eq_false (show ¬ c = 41 by omega)]; simp
      · rw [if_neg c4] at pe
        by_cases c1 : c = 41
        · rw [if_pos c1, if_neg (fun q => neg ⟨c1, q⟩)] at pe
          refine ⟨d - 1, ?_, by omega, by rw [if_neg (by omega)]; exact pe⟩
          rw [decide_eq_false c4, decide_eq_true c1]
          have : d ≠ 0 := fun q => neg ⟨c1, q⟩
          simp; omega
        · rw [if_neg c1] at pe
          refine ⟨d, ?_, by omega, pe⟩
          rw [decide_eq_false c4, decide_eq_false c1]; simp
    dsimp only
    rw [hD]
    refine iteN (by rw [decide_eq_true_eq]; omega) ?_
    refine ⟨fun b G' => G' = G ∧ b = decide (c = 32 ∧ d2 = 0), ?_, ?_⟩
    · refine ⟨_, rfl, rfl, _, rfl, ?_⟩
      rw [k3]
      by_cases c3 : c = 32
      · refine iteP (decide_eq_true c3) ⟨_, rfl, rfl, _, rfl, rfl, decide_eq_decide.mpr ⟨fun q => ⟨c3, ?_⟩, fun q => ?_⟩⟩
        · injection q with q; omega
        · rw [q.2]; rfl
      · exact iteN (fun q => c3 (of_decide_eq_true q)) ⟨rfl, (decide_eq_false fun q => c3 q.1).symm⟩
    rintro b G' ⟨rfl, rfl⟩
    by_cases cc : c = 32 ∧ d2 = 0
    · rw [if_pos cc] at hp
      refine iteP (decide_eq_true cc) ?_
      refine ⟨_, rfl, .inl ⟨rfl, _, SqL.of h2⟩, lf, _, _, rfl, rfl, h2, big4 (by rw [List.length_append, List.length_map, show [V.str (mkS cur)].length = 1 from rfl]; omega), ?_⟩
      refine ⟨d2, done ++ [cur], [], _, rfl, same_lst s2 hlf, ?_, hp, by rw [List.length_append, show [cur].length = 1 from rfl]; omega, Nat.zero_le _, hle⟩
      rw [upd_same, ← e0]; simp
    · rw [if_neg cc] at hp
      refine iteN (fun q => cc (of_decide_eq_true q)) ?_
      have cl2 : (mkS cur).length = cur.length := rfl
      have c1l : (⟨#[c]⟩ : Str).length = 1 := rfl
      refine ⟨_, rfl, 1, rfl, lf, _, _, .str (mkS cur), rfl, rfl, SqL.of h2, at_last _ _, _, rfl, _, _, rfl, rfl, Nat.le_of_lt (big4 (by omega)), _, rfl, 1, rfl, lf, _, _, _, rfl, rfl, h2, ix_last2 _ _, ?_⟩
      rw [set_last_eq]
      refine ⟨d2, done, cur ++ [c], _, rfl, same_lst s2 hlf, ?_, hp, by omega, by rw [List.length_append, show [c].length = 1 from rfl]; omega, hle⟩
      have : mkS cur ++ ⟨#[c]⟩ = mkS (cur ++ [c]) := sL_inj (sL_app _ _)
      rw [upd_same, this]
      simp
  · rintro σ G ⟨d, done, cur, v3, rfl, s2, h2, pe, _⟩
    refine ⟨_, rfl, k lf G s2 ?_⟩
    rw [h2]
    have e : parts (sL z) = done ++ [cur] := by
      unfold parts
      rw [pe, List.drop_of_length_le (by rw [sL_len]; exact Nat.le_refl _)]
      rfl
    rw [e]
end
end Mine
namespace Mine
open PySem L2
section
variable {P : Program} {w : World} {K : PySem.W.Frag} {mg : Str → Option Value} {base : Heap}
theorem nd_WrR1 : (["_law_sign_here"] : List Str).Nodup := by decide +kernel
theorem nd_WrR2 : (["_law_sign_here"] : List Str).Nodup := by decide +kernel
theorem nd_WrR3 : (["_law_sign_here"] : List Str).Nodup := by decide +kernel
theorem scWrR : FnScope ["_law_word", "_law_kept"] ["_law_word"] (defScope sWrR) := ⟨rfl, rfl, rfl, by decide +kernel, rfl, by decide +kernel, by decide +kernel⟩
theorem ok_WrR {f : Addr} {fd : FuncData} (F : Fun K "_law_word_read" "_law_word_read" sWrR f fd)
    (m_all : mg "all" = none) (m_len : mg "len" = none) (m_str : mg "str" = none) (m_int : mg "int" = none) :
    FnOk P w K mg base CX0 (1) f fd ["_law_word"] spLeaf := by
  refine F.ok scWrR (fun vs H Q E h => ?_) (fun cdv A outer s H vs Q E hr h => ?_)
  · obtain ⟨z, rfl, _⟩ := h
    rfl
  obtain ⟨z, rfl, hl, k1, k2⟩ := h
  have hu := hu_of hr
  refine ⟨_, (@pss_cons _ _ _ _ _ (@ps_set _ _ 1 _ _ _ _ scWrR.nd rfl (Or.inl rfl) (@pe_lst _ _ _ _ (@pa_cons _ _ _ _ _ pe_str (@pa_cons _ _ _ _ _ pe_str (@pa_cons _ _ _ _ _ pe_str (@pa_cons _ _ _ _ _ pe_str (@pa_cons _ _ _ _ _ pe_str (@pa_cons _ _ _ _ _ pe_str (@pa_cons _ _ _ _ _ pe_str (@pa_cons _ _ _ _ _ pe_str (@pa_cons _ _ _ _ _ pe_str (@pa_cons _ _ _ _ _ pe_str (@pa_cons _ _ _ _ _ pe_str (@pa_cons _ _ _ _ _ pe_str pa_nil rfl) rfl) rfl) rfl) rfl) rfl) rfl) rfl) rfl) rfl) rfl) rfl)) rfl (Or.inl rfl))
    (@pss_cons _ _ _ _ _ (ps_if (pt_post (PW.pt (pw_and (pt_cmpR op_gt (pe_callB call_len_str (by rfl) m_len PySem.boot_len (pa_cons (pv 0) pa_nil)) pe_int (nomark _)) (pw_and1 (pt_cmpR op_eq (pe_callB call_len_seq (by rfl) m_len PySem.boot_len (pa_cons (pe_comp ["_law_sign_here"] [none] (pi_str (pv 0)) (fun _ _ _ _ => (pg_name (i := 0) (nd_WrR2) rfl (Or.inl rfl))) (fun _ _ _ _ => (pf_one (pt_cmpR op_notin_str (pv 0) pe_str rfl))) (fun _ _ _ _ => (pv 0))) pa_nil)) pe_int (nomark _)))))) (pss_cons (ps_if (pt_post (PW.pt (pw_and (pt_cmpR op_lt (pe_callB call_len_str (by rfl) m_len PySem.boot_len (pa_cons (pv 0) pa_nil)) pe_int (nomark _)) (pw_and1 (pt_cmpR op_eq (pe_callTy call_str1 (by rfl) m_str PyProof.Rows.boot_str (pa_cons (pe_callTy call_intS (by rfl) m_int PyProof.Rows.boot_int (pa_cons (pv 0) pa_nil)) pa_nil)) (pv 0) (nomark _)))))) (pss_one (ps_ret (pe_tup (pa_cons pe_str (pa_cons (pe_callTy call_intS (by rfl) m_int PyProof.Rows.boot_int (pa_cons (pv 0) pa_nil)) pa_nil))))) pss_nil)
    (pss_one (ps_ret pe_non))) pss_nil)
    (@pss_cons _ _ _ _ _ (ps_if (pt_post (PW.pt (pw_and (pt_post (pt_chain op_lt op_lt pe_int (pe_callB call_len_str (by rfl) m_len PySem.boot_len (pa_cons (pv 0) pa_nil)) pe_int)) (pw_and (pt_val (pe_callB call_all (by rfl) m_all PyProof.Rows.boot_all (pa_cons (pe_comp ["_law_sign_here"] [none] (pi_str (pv 0)) (fun _ _ _ _ => (pg_name (i := 0) (nd_WrR3) rfl (Or.inl rfl))) (fun _ _ _ _ => pf_nil) (fun _ _ _ _ => (pe_chain op_leS op_leS pe_str (pv 0) pe_str))) pa_nil))) (pw_and1 (pt_cmpR op_notIn_seq (pv 0) (pv 1) rfl)))))) (pss_one (ps_ret (pe_tup (pa_cons pe_str (pa_cons (pv 0) pa_nil))))) pss_nil)
    (@pss_one _ _ _ (ps_ret pe_non))))), ?_⟩
  refine ⟨by show 12 ≤ sizeLine; decide, fun lk hlk => ?_⟩
  have s1 := same_new hlk (.lst [.str "kinds", .str "ladder", .str "flat", .str "choose", .str "first", .str "let", .str "tell", .str "when", .str "else", .str "times", .str "end", .str "of"])
  have h1 : upd H lk (.lst [.str "kinds", .str "ladder", .str "flat", .str "choose", .str "first", .str "let", .str "tell", .str "when", .str "else", .str "times", .str "end", .str "of"]) lk = some (.lst (taken.map V.str)) := upd_same
  generalize upd H lk (.lst [.str "kinds", .str "ladder", .str "flat", .str "choose", .str "first", .str "let", .str "tell", .str "when", .str "else", .str "times", .str "end", .str "of"]) = H1 at s1 h1 ⊢
  have zl : (sL z).length ≤ 1000000 := hl
  have hz : z.length ≤ sizeLine := Nat.le_of_lt (big4 (by omega))
  have kn : ∀ G, Same H G → leaf (sL z) = none → Q .non G := fun G s e => k1 e G s
  refine ⟨fun b G => Same H G ∧ G lk = some (.lst (taken.map V.str)) ∧ b = decide (1 ≤ z.length ∧ ∀ c ∈ sL z, isD c), ?_, ?_⟩
  · refine ⟨_, rfl, _, rfl, hz, _, _, rfl, rfl, _, rfl, ?_⟩
    by_cases c0 : 1 ≤ z.length
    · refine iteP (decide_eq_true (by omega)) ?_
      refine ⟨_, rfl, z, rfl, comp_str (x := z) (fun i ys σ G => G = H1 ∧ (∃ v, σ = [v]) ∧ ys.length ≤ i ∧ (ys = [] ↔ ∀ c ∈ (sL z).take i, isD c)) (big4 (by omega)) ⟨rfl, ⟨_, rfl⟩, Nat.le_refl _, by simp⟩
        (by rintro i ys σ G ⟨_, _, e, _⟩; exact e) ?_ ?_⟩
      · rintro i c ys σ G hc ⟨rfl, ⟨v, rfl⟩, yl, e⟩
        have tk : (sL z).take (i + 1) = (sL z).take i ++ [c] := by
          have := take_map (f := fun x => x) (cps_at hc)
          simpa using this
        refine ⟨_, rfl, _, _, rfl, rfl, _, rfl, ?_⟩
        rw [in_one, show decide (c ∈ sL "0123456789") = decide (isD c) from decide_eq_decide.mpr (figs_mem c)]
        by_cases d : isD c
        · rw [decide_eq_true d]
          refine iteN (by decide) ⟨rfl, ⟨_, rfl⟩, by omega, ?_⟩
          rw [tk, e]
          exact ⟨fun q x hx => (List.mem_append.mp hx).elim (q x) fun y => by rw [List.mem_singleton.mp y]; exact d, fun q x hx => q x (List.mem_append_left _ hx)⟩
        · rw [decide_eq_false d]
          refine iteP (by decide) ⟨_, rfl, rfl, ⟨_, rfl⟩, by rw [List.length_append, show [V.str ⟨#[c]⟩].length = 1 from rfl]; omega, ?_⟩
          rw [tk]
          exact ⟨fun q => by simp at q, fun q => absurd (q c (by simp)) d⟩
      · rintro ys σ G ⟨rfl, _, yl, e⟩ l hl2
        have s2 := s1.trans (same_new hl2 (.lst ys))
        refine ⟨l, _, rfl, .inl (SqL.of upd_same), rfl, _, rfl, s2, (same_new hl2 _) _ _ h1, ?_⟩
        rw [List.take_of_length_le (by rw [sL_len]; exact Nat.le_refl _)] at e
        refine decide_eq_decide.mpr ⟨fun q => ⟨c0, e.mp ?_⟩, fun q => ?_⟩
        · injection q with q
          exact List.length_eq_zero_iff.mp (by omega)
        · rw [e.mpr q.2]; rfl
    · exact iteN (fun q => c0 (by have := of_decide_eq_true q; omega)) ⟨s1, h1, (decide_eq_false fun q => c0 q.1).symm⟩
  rintro b G ⟨s2, h2, rfl⟩
  by_cases dd : 1 ≤ z.length ∧ ∀ c ∈ sL z, isD c
  · rw [decide_eq_true dd]
    refine iteP rfl ?_
    obtain ⟨d0, dd⟩ := dd
    have nn := not_nm d0 dd
    have lf : leaf (sL z) = (numOf (sL z)).map .num := by unfold leaf; rw [if_neg nn]
    have it : z.length ≤ 3 → intText? z = some ((NumText.digitsVal (sL z) : Nat) : Int) := fun l3 => intText_digits dd (fun q => by rw [← sL_len, show sL z = [] from q] at d0; simp at d0) (by omega)
    refine ⟨fun b G' => G' = G ∧ b = (numOf (sL z)).isSome, ?_, ?_⟩
    · refine ⟨_, rfl, _, rfl, hz, _, _, rfl, rfl, _, rfl, ?_⟩
      by_cases c4 : z.length ≤ 3
      · have v9 := val_999 (w := sL z) c4 dd
        have nw := num_word d0 c4 dd
        refine iteP (decide_eq_true (by omega)) ⟨_, rfl, .inl ⟨z, _, rfl, it c4, by omega, .inl ⟨_, rfl, log_ok (n := NumText.digitsVal (sL z)) v9, _, rfl, rfl, _, rfl, rfl, nw.1⟩⟩⟩
      · refine iteN (fun q => c4 (by have := of_decide_eq_true q; omega)) ⟨rfl, ?_⟩
        cases q : numOf (sL z) with
        | none => rfl
        | some m => exact absurd (numOf_len q).2.1 c4
    rintro b G' ⟨rfl, rfl⟩
    cases q : numOf (sL z) with
    | none => exact iteN (by decide) (kn _ s2 (by rw [lf, q]; rfl))
    | some m =>
      have c4 : z.length ≤ 3 := (numOf_len q).2.1
      have em := (num_word d0 c4 dd).2 m q
      refine iteP rfl ⟨_, rfl, .inl ⟨z, _, rfl, it c4, by omega, by show 2 ≤ sizeLine; decide, fun p hp => k2 (.num m) p _ (by rw [lf, q]; rfl) (s2.trans (same_new hp _)) ?_⟩⟩
      rw [em]
      exact upd_same
  · rw [decide_eq_false dd]
    refine iteN (by decide) ?_
    have nn : numOf (sL z) = none := by
      cases q : numOf (sL z) with
      | none => rfl
      | some m => exact absurd ⟨(numOf_len q).1, (numOf_len q).2.2.1⟩ dd
    refine ⟨fun b G' => Same H G' ∧ b = decide (nmOk (sL z)), ?_, ?_⟩
    · refine ⟨fun b G' => G' = G ∧ b = decide (1 ≤ z.length ∧ z.length ≤ 8), ?_, ?_⟩
      · refine ⟨_, rfl, _, rfl, hz, _, _, rfl, rfl, _, rfl, ?_⟩
        by_cases h1 : 1 ≤ z.length
        · refine iteP (decide_eq_true (by omega)) ⟨_, _, rfl, rfl, _, rfl, rfl, ?_⟩
          by_cases h2 : z.length ≤ 8
          · rw [decide_eq_true (show (z.length : Int) < 9 by omega), decide_eq_true ⟨h1, h2⟩]
          · rw [decide_eq_false (show ¬ (z.length : Int) < 9 by omega), decide_eq_false (fun q => h2 q.2)]
        · exact iteN (fun q => h1 (by have := of_decide_eq_true q; omega)) ⟨_, rfl, rfl, (decide_eq_false (fun q => h1 q.1)).symm⟩
      rintro b G' ⟨rfl, rfl⟩
      by_cases c : 1 ≤ z.length ∧ z.length ≤ 8
      · rw [decide_eq_true c]
        refine iteP rfl ?_
        refine ⟨_, rfl, z, rfl, comp_str (x := z) (fun i ys σ H2 => H2 = G' ∧ (∃ v, σ = [v]) ∧ ys = ((sL z).take i).map fun c => V.bl (decide (97 ≤ c ∧ c ≤ 122))) (big4 (by omega)) ⟨rfl, ⟨_, rfl⟩, rfl⟩
          (by rintro i ys σ H2 ⟨_, _, e⟩; rw [e, List.length_map, List.length_take]; omega) ?_ ?_⟩
        · rintro i c ys σ H2 hc ⟨rfl, ⟨v, rfl⟩, rfl⟩
          refine ⟨_, rfl, _, _, rfl, rfl, _, rfl, ?_⟩
          rw [le_a, take_map (f := fun c => V.bl (decide (97 ≤ c ∧ c ≤ 122))) (cps_at hc)]
          by_cases h1 : 97 ≤ c
          · refine iteP (decide_eq_true h1) ⟨_, _, rfl, rfl, rfl, ⟨_, rfl⟩, ?_⟩
            rw [le_z]
            by_cases h2 : c ≤ 122
            · rw [decide_eq_true h2, decide_eq_true ⟨h1, h2⟩]
            · rw [decide_eq_false h2, decide_eq_false fun q => h2 q.2]
          · refine iteN (fun q => h1 (of_decide_eq_true q)) ⟨rfl, ⟨_, rfl⟩, ?_⟩
            rw [decide_eq_false fun q => h1 q.1]
        · rintro ys σ H2 ⟨rfl, _, rfl⟩ l hl2
          have el : ((sL z).take z.length).map (fun c => V.bl (decide (97 ≤ c ∧ c ≤ 122))) = ((sL z).map fun c => decide (97 ≤ c ∧ c ≤ 122)).map V.bl := by
            rw [List.take_of_length_le (by rw [sL_len]; exact Nat.le_refl _), List.map_map]; rfl
          have sN := same_new hl2 (.lst (((sL z).take z.length).map fun c => V.bl (decide (97 ≤ c ∧ c ≤ 122))))
          refine ⟨l, (sL z).map fun c => decide (97 ≤ c ∧ c ≤ 122), rfl, by rw [el]; exact SqL.of upd_same, _, rfl, ?_⟩
          rw [all_dec]
          by_cases al : ∀ c ∈ sL z, 97 ≤ c ∧ c ≤ 122
          · refine iteP (decide_eq_true al) ⟨_, rfl, _, rfl, lk, _, rfl, .inl (SqL.of (sN _ _ h2)), rfl, flat_texts _, _, rfl, s2.trans sN, ?_⟩
            have e := notin_strs z taken
            refine e.trans ?_
            by_cases c2 : z ∈ taken
            · rw [decide_eq_true c2]
              exact (decide_eq_false fun q => q.2.2.2 ((kept_iff z).mp c2)).symm
            · rw [decide_eq_false c2]
              exact (decide_eq_true ⟨c.1, c.2, al, fun y => c2 ((kept_iff z).mpr y)⟩).symm
          · exact iteN (fun q => al (of_decide_eq_true q)) ⟨s2.trans sN, (decide_eq_false fun q => al q.2.2.1).symm⟩
      · rw [decide_eq_false c]
        exact iteN (by decide) ⟨s2, (decide_eq_false fun q => c ⟨q.1, q.2.1⟩).symm⟩
    rintro b G' ⟨s3, rfl⟩
    by_cases c : nmOk (sL z)
    · rw [decide_eq_true c]
      refine iteP rfl ⟨_, rfl, by show 2 ≤ sizeLine; decide, fun p hp => k2 (.nam (sL z)) p _ (by unfold leaf; rw [if_pos c]) (s3.trans (same_new hp _)) ?_⟩
      show upd G' p _ p = some (.tup [.str "name", .str (mkS (sL z))])
      rw [mk_sL]
      exact upd_same
    · rw [decide_eq_false c]
      exact iteN (by decide) (kn _ s3 (by unfold leaf; rw [if_neg c, nn]; rfl))
end
end Mine
namespace Mine
open PySem L2
section
variable {P : Program} {w : World} {K : PySem.W.Frag} {mg : Str → Option Value} {base : Heap}
theorem nd_Rdd1 : (["_law_one"] : List Str).Nodup := by decide +kernel
theorem scRdd : FnScope ["_law_text", "_law_two"] ["_law_text"] (defScope sRdd) := ⟨rfl, rfl, rfl, by decide +kernel, rfl, by decide +kernel, by decide +kernel⟩
theorem ok_Rdd (n : Nat) {f : Addr} {fd : FuncData} (F : Fun K "_law_read" "_law_read" sRdd f fd)
    {f_WrR : Addr} {d_WrR : FuncData} (G_WrR : FnOk P w K mg base CX0 (1) f_WrR d_WrR ["_law_word"] spLeaf) (b_WrR : Binds K d_WrR ["_law_word"] []) (k_WrR : PySem.W.keepIn K (.ref f_WrR) = true) (m_WrR : mg "_law_word_read" = some (.ref f_WrR))
    {f_Rdd : Addr} {d_Rdd : FuncData} (G_Rdd : FnOk P w K mg base CX0 (n + 1) f_Rdd d_Rdd ["_law_text"] (spRd n)) (b_Rdd : Binds K d_Rdd ["_law_text"] []) (k_Rdd : PySem.W.keepIn K (.ref f_Rdd) = true) (m_Rdd : mg "_law_read" = some (.ref f_Rdd))
    {f_Prd : Addr} {d_Prd : FuncData} (G_Prd : FnOk P w K mg base CX0 (1) f_Prd d_Prd ["_law_text"] spPart) (b_Prd : Binds K d_Prd ["_law_text"] []) (k_Prd : PySem.W.keepIn K (.ref f_Prd) = true) (m_Prd : mg "_law_parted" = some (.ref f_Prd))
    (m_len : mg "len" = none) :
    FnOk P w K mg base CX0 (n + 1 + 1) f fd ["_law_text"] (spRd (n + 1)) := by
  refine F.ok scRdd (fun vs H Q E h => ?_) (fun cdv A outer s H vs Q E hr h => ?_)
  · obtain ⟨z, rfl, _⟩ := h
    rfl
  obtain ⟨z, rfl, hl, n50, hc, k1, k2⟩ := h
  have hu := hu_of hr
  have hr1 : Room 1 _ := hr.mono (by omega)
  have hr_Rdd : Room (n + 1) _ := hr.mono (by omega)
  refine ⟨_, (pss_cons (ps_if (pt_cmpR op_ne (pe_slice sl_str (pv 0) po_none (po_some pe_int)) pe_str (nomark _)) (pss_one (ps_ret (pe_call G_WrR hr1 (by rfl) m_WrR k_WrR b_WrR .nil pass0 (pa_cons (pv 0) pa_nil)))) pss_nil)
    (pss_cons (ps_if (pt_post (PW.pt (pw_or (pt_cmpR op_lt (pe_callB call_len_str (by rfl) m_len PySem.boot_len (pa_cons (pv 0) pa_nil)) pe_int (nomark _)) (pw_or (pt_cmpR op_ne (pe_ix ix_str (pv 0) (pe_un un_neg pe_int) (fun _ _ => rfl)) pe_str (nomark _)) (pw_or (pt_cmpR op_notin_str (pe_ix ix_str (pv 0) pe_int (fun _ _ => rfl)) pe_str rfl) (pw_or1 (pt_cmpR op_ne (pe_ix ix_str (pv 0) pe_int (fun _ _ => rfl)) pe_str (nomark _)))))))) (pss_one (ps_ret pe_non)) pss_nil)
    (pss_cons (ps_setC ["_law_one"] [none] (i := 1) scRdd.nd rfl (Or.inl rfl) (pi_list (pe_call G_Prd hr1 (by rfl) m_Prd k_Prd b_Prd .nil pass0 (pa_cons (pe_slice sl_str (pv 0) (po_some pe_int) (po_some (pe_un un_neg pe_int))) pa_nil))) (fun _ _ _ _ => (pg_name (i := 0) (nd_Rdd1) rfl (Or.inl rfl))) (fun _ _ _ _ => pf_nil) (fun _ _ _ _ => (pe_call G_Rdd hr_Rdd (by rfl) m_Rdd k_Rdd b_Rdd .nil pass0 (pa_cons (pv 0) pa_nil))))
    (pss_cons (ps_if (pt_post (PW.pt (pw_or (pt_cmpR op_ne (pe_callB call_len_seq (by rfl) m_len PySem.boot_len (pa_cons (pv 1) pa_nil)) pe_int (nomark _)) (pw_or1 (pt_cmpR (op_inD hr1) pe_non (pv 1) rfl))))) (pss_one (ps_ret pe_non)) pss_nil)
    (pss_one (ps_ret (pe_tup (pa_cons pe_str (pa_cons (pe_ix ix_str (pv 0) pe_int (fun _ _ => rfl)) (pa_cons (pe_ix ix_list (pv 1) pe_int (fun _ _ => rfl)) (pa_cons (pe_ix ix_list (pv 1) pe_int (fun _ _ => rfl)) pa_nil))))))))))), ?_⟩
  have zl : (sL z).length ≤ 1000000 := hl
  have hz : z.length ≤ sizeLine := Nat.le_of_lt (big4 (by omega))
  refine ⟨_, rfl, 1, rfl, z, rfl, hz, rfl, _, rfl, ?_⟩
  have st : sL (Txt.slice z none (some 1)) = (sL z).take 1 := slice_to z 1
  have e40 : sL "(" = [40] := by decide +kernel
  have hd : V.str (Txt.slice z none (some 1)) = V.str "(" ↔ (sL z).head? = some 40 := by
    constructor
    · intro q
      injection q with q
      have := congrArg sL q
      rw [st, e40] at this
      cases h : sL z with
      | nil => rw [h] at this; cases this
      | cons y r => rw [h] at this; exact congrArg some (List.cons.inj this).1
    · intro q
      have : Txt.slice z none (some 1) = "(" := sL_inj (by
        rw [st, e40]
        cases h : sL z with
        | nil => rw [h] at q; cases q
        | cons y r => rw [h] at q; rw [Option.some.inj q]; rfl)
      rw [this]
  by_cases h40 : (sL z).head? = some 40
  rotate_left
  · have eB : readB (n + 1) (sL z) = leaf (sL z) := by unfold readB; rw [if_neg h40]
    rw [eB] at k1 k2
    exact iteP (by rw [decide_eq_false fun q => h40 (hd.mp q)]; rfl) ⟨_, rfl, z, rfl, hl, k1, k2⟩
  refine iteN (by rw [decide_eq_true (hd.mpr h40)]; decide) ?_
  have k3 : ∀ (c : Nat) (y : Str) (m : Nat), sL y = [m] → decide (V.str ⟨#[c]⟩ = V.str y) = decide (c = m) := fun c y m e => decide_eq_decide.mpr ⟨fun q => by injection q with q; have := congrArg sL q; rw [e] at this; exact (List.cons.inj this).1, fun q => by rw [q, show (⟨#[m]⟩ : Str) = y from sL_inj e.symm]⟩
  refine ⟨fun b G => G = H ∧ b = !decide (opn (sL z)), ?_, ?_⟩
  · refine ⟨_, rfl, _, rfl, hz, _, _, rfl, rfl, _, rfl, ?_⟩
    by_cases h7 : z.length < 7
    · exact iteP (decide_eq_true (by omega)) ⟨rfl, by rw [decide_eq_false fun q => by have := q.1; rw [sL_len] at this; omega]; rfl⟩
    refine iteN (fun q => h7 (by have := of_decide_eq_true q; omega)) ?_
    have z7 : 7 ≤ (sL z).length := by rw [sL_len]; omega
    obtain ⟨ini, la, ez⟩ : ∃ ini la, sL z = ini ++ [la] := by
      rcases snoc_cases (sL z) with e | e
      · rw [e] at z7; simp at z7
      · exact e
    have gl : (sL z).getLast? = some la := by rw [ez]; simp
    obtain ⟨y0, y1, y2, r, er⟩ : ∃ y0 y1 y2 r, sL z = y0 :: y1 :: y2 :: r := by
      rcases h : sL z with _ | ⟨a, _ | ⟨b, _ | ⟨c, r⟩⟩⟩
      · rw [h] at z7; simp at z7
      · rw [h] at z7; simp at z7
      · rw [h] at z7; simp at z7
      · exact ⟨a, b, c, r, rfl⟩
    have a1 : atI z.cps.toList 1 = some y1 := by rw [show z.cps.toList = y0 :: y1 :: y2 :: r from er]; exact at_k 1 (by simp)
    have a2 : atI z.cps.toList 2 = some y2 := by rw [show z.cps.toList = y0 :: y1 :: y2 :: r from er]; exact at_k 2 (by simp)
    refine ⟨_, rfl, 1, rfl, z, _, la, rfl, rfl, hz, by rw [show z.cps.toList = ini ++ [la] from ez]; exact at_last _ _, rfl, _, rfl, ?_⟩
    rw [k3 la ")" 41 (by decide +kernel)]
    by_cases hla : la = 41
    rotate_left
    · exact iteP (by rw [decide_eq_false hla]; rfl) ⟨rfl, by rw [decide_eq_false fun q => by have := q.2.1; rw [gl] at this; exact hla (Option.some.inj this)]; rfl⟩
    refine iteN (by rw [decide_eq_true hla]; decide) ?_
    refine ⟨_, rfl, z, 1, y1, rfl, rfl, hz, a1, _, _, rfl, rfl, _, rfl, ?_⟩
    rw [in_one]
    have sgm : decide (y1 ∈ sL "+-*<=") = decide (y1 ∈ sg) := decide_eq_decide.mpr (by
      have e : sL "+-*<=" = sg := by decide +kernel
      rw [e])
    rw [sgm]
    have hsg : hasSg (sL z) = decide (y1 ∈ sg) := by rw [er]; rfl
    by_cases hy1 : y1 ∈ sg
    rotate_left
    · exact iteP (by rw [decide_eq_false hy1]; rfl) ⟨rfl, by rw [decide_eq_false fun q => by have := q.2.2.1; rw [hsg, decide_eq_false hy1] at this; cases this]; rfl⟩
    refine iteN (by rw [decide_eq_true hy1]; decide) ?_
    refine ⟨_, rfl, z, 2, y2, rfl, rfl, hz, a2, rfl, _, rfl, rfl, ?_⟩
    rw [k3 y2 " " 32 (by decide +kernel)]
    congr 1
    refine decide_eq_decide.mpr ⟨fun q => ⟨z7, by rw [gl, hla], by rw [hsg]; exact decide_eq_true hy1, by rw [er, q]; rfl⟩, fun q => ?_⟩
    have := q.2.2.2
    rw [er] at this
    exact Option.some.inj this
  rintro b G ⟨rfl, rfl⟩
  by_cases op : opn (sL z)
  rotate_left
  · rw [decide_eq_false op]
    exact iteP rfl (k1 (by unfold readB; rw [if_pos h40, if_neg op]) G (Same.refl _))
  rw [decide_eq_true op]
  refine iteN (by decide) ?_
  obtain ⟨shp, ssg⟩ := shape h40 op
  have z7 := op.1
  have si := slice_in z (by rw [← sL_len]; exact z7)
  have ci := cnt_inner h40 op
  have il : (Txt.slice z (some 3) (some (-1))).length ≤ 1000000 := Nat.le_trans (Txt.slice_le z _ _) hl
  have eB : readB (n + 1) (sL z) = (two ((parts (((sL z).drop 3).dropLast)).map (readB n))).map fun e => PT.op ((sL z).getD 1 0) e.1 e.2 := by
    rw [readB, if_pos h40, if_pos op]
  have a1 : atI z.cps.toList 1 = some ((sL z).getD 1 0) := by
    have : (sL z)[1]? = some ((sL z).getD 1 0) := by rw [List.getD_eq_getElem?_getD, List.getElem?_eq_getElem (by omega)]; rfl
    exact at_k2 1 this
  refine ⟨_, rfl, 3, rfl, 1, rfl, -1, rfl, z, rfl, hz, _, rfl, il, fun l H1 s1 hl1 => ?_⟩
  rw [si] at hl1
  generalize ((sL z).drop 3).dropLast = tt at si hl1 ci eB
  have pn : (parts tt).length ≤ 1000001 := by
    by_cases q : parts tt = []
    · rw [q]; exact Nat.zero_le _
    · have := parts_cnt tt
      have e : tt.length = (Txt.slice z (some 3) (some (-1))).length := by rw [← sL_len, si]
      omega
  refine ⟨l, rfl, ⟨_, SqL.of hl1⟩, comp_list (K := K) (a := l) (xs := (parts tt).map fun x => V.str (mkS x)) (fun i ys σ G2 => Same H1 G2 ∧ (∃ v, σ = [v]) ∧ Two (OV G2) ys (((parts tt).take i).map (readB n)))
    (big4 (by rw [List.length_map]; omega)) ⟨Same.refl _, ⟨_, rfl⟩, trivial⟩ (by rintro i ys σ G2 ⟨_, _, e⟩; rw [e.length, List.length_map, List.length_take]; omega) (by rintro i ys σ G2 _ ⟨e, _⟩; exact SqL.of (e _ _ hl1)) ?_ ?_⟩
  · rintro i v ys σ G2 hv ⟨s2, ⟨v0, rfl⟩, tw⟩
    rw [List.getElem?_map] at hv
    obtain ⟨w, hw, rfl⟩ := Option.map_eq_some_iff.mp hv
    have mw := List.mem_of_getElem? hw
    have cw := cnt_parts mw
    have lw : (mkS w).length ≤ 1000000 := by
      have q := part_len mw
      rw [parts_join (fun z => by rw [z] at mw; exact absurd mw List.not_mem_nil), ← si] at q
      exact Nat.le_trans q il
    have tk : ((parts tt).take (i + 1)).map (readB n) = ((parts tt).take i).map (readB n) ++ [readB n w] := by
      rw [List.take_add_one, hw, Option.toList_some, List.map_append]; rfl
    cases n with
    | zero => exact absurd ci (by omega)
    | succ n =>
    refine ⟨_, rfl, mkS w, rfl, lw, by omega, by show cnt w < n + 1; omega, fun e G3 s3 => ?_, fun T p G3 e s3 ph => ?_⟩
    · refine ⟨s2.trans s3, ⟨_, rfl⟩, ?_⟩
      rw [tk]
      refine Two.append (tw.mono fun _ _ q => q.same s3) ⟨?_, trivial⟩
      rw [show readB (n + 1) w = none from e]
      exact rfl
    · refine ⟨s2.trans s3, ⟨_, rfl⟩, ?_⟩
      rw [tk]
      refine Two.append (tw.mono fun _ _ q => q.same s3) ⟨?_, trivial⟩
      rw [show readB (n + 1) w = some T from e]
      exact ⟨p, rfl, ph⟩
  rintro ys σ G2 ⟨s2, _, tw⟩ l2 hl2
  rw [List.take_of_length_le (by rw [List.length_map]; exact Nat.le_refl _)] at tw
  have okT : ∀ T, some T ∈ (parts tt).map (readB n) → T.ok ∧ dep T ≤ 60 := fun T hT => by
    obtain ⟨w, mw, e⟩ := List.mem_map.mp hT
    have q := readB_some e
    have cw := cnt_parts mw
    have := dep_cnt q.1
    rw [← q.2] at this
    exact ⟨q.1, by omega⟩
  generalize ((parts tt).map (readB n)) = os at tw okT eB
  have s3 := s1.trans (s2.trans (same_new hl2 (.lst ys)))
  replace tw := tw.mono fun _ _ q => OV.same (same_new hl2 (.lst ys)) q
  have h3 : upd G2 l2 (.lst ys) l2 = some (.lst ys) := upd_same
  generalize upd G2 l2 (.lst ys) = G3 at s3 tw h3 ⊢
  have yo := tw.length
  refine ⟨fun b G' => G' = G3 ∧ b = !decide (os.length = 2 ∧ none ∉ os), ?_, ?_⟩
  · refine ⟨_, rfl, l2, _, rfl, .inl (SqL.of h3), rfl, _, rfl, ?_⟩
    by_cases o2 : os.length = 2
    · refine iteN (by rw [yo, o2]; decide) ⟨_, rfl, os.map oD, .none, ⟨l2, ys, rfl, SqL.of h3, od_rep tw⟩, rfl, od_shaped okT, by decide, od_mix, _, rfl, rfl, ?_⟩
      rw [(od_cnt os).1]
      by_cases m : none ∈ os
      · rw [decide_eq_true m, decide_eq_false fun q => q.2 m]; rfl
      · rw [decide_eq_false m, decide_eq_true ⟨o2, m⟩]; rfl
    · refine iteP ?_ ⟨rfl, by rw [decide_eq_false fun q => o2 q.1]; rfl⟩
      rw [decide_eq_false]
      · rfl
      · intro q
        injection q with q
        omega
  rintro b G' ⟨rfl, rfl⟩
  by_cases ob : os.length = 2 ∧ none ∉ os
  rotate_left
  · rw [decide_eq_false ob]
    exact iteP rfl (k1 (by rw [eB, two_none ob]; rfl) _ s3)
  rw [decide_eq_true ob]
  refine iteN (by decide) ?_
  obtain ⟨ta, tb, rfl⟩ := two_some ob
  obtain ⟨_, _, rfl, ⟨pa, rfl, ha⟩, ⟨pb, rfl, hb⟩⟩ := two2 tw
  refine ⟨_, rfl, z, 1, _, rfl, rfl, hz, a1, _, rfl, l2, _, _, .ref pa, rfl, rfl, SqL.of h3, at0, _, rfl, l2, _, _, .ref pb, rfl, rfl, SqL.of h3, rfl, by show 4 ≤ sizeLine; decide, fun p hp => ?_⟩
  have s4 := same_new hp (.tup [.str "op", .str ⟨#[(sL z).getD 1 0]⟩, .ref pa, .ref pb])
  exact k2 (.op ((sL z).getD 1 0) ta tb) p _ (by rw [eB]; rfl) (s3.trans s4) ⟨pa, pb, upd_same, ha.ts (.of s4), hb.ts (.of s4)⟩
end
end Mine
namespace Mine
open PySem L2
section
variable {P : Program} {w : World} {K : PySem.W.Frag} {mg : Str → Option Value} {base : Heap}
theorem scSgn : FnScope ["_law_state", "_law_some", "_law_near"] ["_law_state"] (defScope sSgn) := ⟨rfl, rfl, rfl, by decide +kernel, rfl, by decide +kernel, by decide +kernel⟩
theorem ok_Sgn {f : Addr} {fd : FuncData} (F : Fun K "_law_sign" "_law_sign" sSgn f fd)
    {f_Draw : Addr} {d_Draw : FuncData} (G_Draw : FnOk P w K mg base CX0 (1) f_Draw d_Draw ["_law_state", "_law_many"] spDraw) (b_Draw : Binds K d_Draw ["_law_state", "_law_many"] []) (k_Draw : PySem.W.keepIn K (.ref f_Draw) = true) (m_Draw : mg "_law_draw" = some (.ref f_Draw))
    (m_len : mg "len" = none) :
    FnOk P w K mg base CX0 (2) f fd ["_law_state"] spSign := by
  refine F.ok scSgn (fun vs H Q E h => ?_) (fun cdv A outer s H vs Q E hr h => ?_)
  · obtain ⟨s, rfl, _⟩ := h
    rfl
  obtain ⟨s, rfl, D, k⟩ := h
  have hu := hu_of hr
  have hr1 : Room 1 _ := hr.mono (by decide)
  refine ⟨_, (pss_cons (ps_set (i := 1) scSgn.nd rfl (Or.inl rfl) pe_str)
    (pss_cons (ps_set (i := 1) scSgn.nd rfl (Or.inl rfl) (pe_op op_add_str (pv 1) pe_str))
    (pss_cons (ps_set (i := 2) scSgn.nd rfl (Or.inl rfl) pe_str)
    (pss_one (ps_ret (pe_ix ix_list (pe_lst (pa_cons (pe_ix ix_str (pv 2) (pe_call G_Draw hr1 (by rfl) m_Draw k_Draw b_Draw .nil pass0 (pa_cons (pv 0) (pa_cons (pe_callB call_len_str (by rfl) m_len PySem.boot_len (pa_cons (pv 2) pa_nil)) pa_nil))) (fun _ _ => rfl)) (pa_cons (pe_ix ix_str (pv 1) (pe_call G_Draw hr1 (by rfl) m_Draw k_Draw b_Draw .nil pass0 (pa_cons (pv 0) (pa_cons (pe_callB call_len_str (by rfl) m_len PySem.boot_len (pa_cons (pv 1) pa_nil)) pa_nil))) (fun _ _ => rfl)) pa_nil))) (pe_op op_fdivB (pe_call G_Draw hr1 (by rfl) m_Draw k_Draw b_Draw .nil pass0 (pa_cons (pv 0) (pa_cons pe_int pa_nil))) pe_int) (fun _ _ => rfl))))))), ?_⟩
  refine ⟨_, rfl, _, _, rfl, rfl, Nat.le_of_lt (big4 (by decide +kernel)), ?_⟩
  generalize hS : (" !\"#$&'()*+,-./0123456789:;<=>?@ABCDEFGHIJKLMNOPQRSTUVWXYZ[\\]^_`" : Str) ++ ("abcdefghijklmnopqrstuvwxyz{|}~\n" : Str) = so
  have so1 : 1 ≤ so.length ∧ so.length ≤ 200 := by rw [← hS]; decide +kernel
  clear hS
  generalize hN : ("()  ()+-*<=0019az" : Str) = ne
  have ne1 : 1 ≤ ne.length ∧ ne.length ≤ 200 := by rw [← hN]; decide +kernel
  clear hN
  have zs : so.length ≤ sizeLine := Nat.le_of_lt (big4 (by omega))
  have zn : ne.length ≤ sizeLine := Nat.le_of_lt (big4 (by omega))
  refine ⟨_, rfl, _, rfl, _, rfl, _, rfl, zn, s, _, rfl, D, by omega, by omega, fun x H1 x0 x1 D1 o1 => ?_⟩
  obtain ⟨c, hc, _⟩ := str_mem (z := ne) x0 x1
  refine ⟨_, x, c, rfl, rfl, zn, hc, _, rfl, _, rfl, _, rfl, _, rfl, zs, s, _, rfl, D1, by omega, by omega, fun y H2 y0 y1 D2 o2 => ?_⟩
  obtain ⟨d, hd, _⟩ := str_mem (z := so) y0 y1
  refine ⟨_, y, d, rfl, rfl, zs, hd, by show 2 ≤ sizeLine; decide, fun l hl => ?_⟩
  have s2 := same_new hl (.lst [.str ⟨#[c]⟩, .str ⟨#[d]⟩])
  have g2 : upd H2 l (.lst [.str ⟨#[c]⟩, .str ⟨#[d]⟩]) l = some (.lst [.str ⟨#[c]⟩, .str ⟨#[d]⟩]) := upd_same
  have nl := D2.ne hl
  generalize upd H2 l (.lst [.str ⟨#[c]⟩, .str ⟨#[d]⟩]) = G2 at s2 g2 ⊢
  refine ⟨_, rfl, s, 4, rfl, D2.same s2, by decide, by decide, fun r H9 r0 r1 DA oA => ⟨_, _, rfl, rfl, ⟨by decide, by decide⟩, ?_⟩⟩
  have r2 : r / 3 = 0 ∨ r / 3 = 1 := by omega
  have fA := o1.trans (o2.trans ((Off.of s2).trans oA))
  dsimp only
  rcases r2 with e | e
  · rw [e]
    exact ⟨l, _, _, .str ⟨#[c]⟩, rfl, rfl, SqL.of (off_at oA g2 nl), at0, k _ _ rfl DA fA⟩
  · rw [e]
    exact ⟨l, _, _, .str ⟨#[d]⟩, rfl, rfl, SqL.of (off_at oA g2 nl), rfl, k _ _ rfl DA fA⟩
end
end Mine
namespace Mine
open PySem L2
section
variable {P : Program} {w : World} {K : PySem.W.Frag} {mg : Str → Option Value} {base : Heap}
theorem scOth : FnScope ["_law_state", "_law_text", "_law_at", "_law_far", "_law_form", "_law_some"] ["_law_state", "_law_text"] (defScope sOth) := ⟨rfl, rfl, rfl, by decide +kernel, rfl, by decide +kernel, by decide +kernel⟩
theorem ok_Oth {f : Addr} {fd : FuncData} (F : Fun K "_law_otherwise" "_law_otherwise" sOth f fd)
    {f_Draw : Addr} {d_Draw : FuncData} (G_Draw : FnOk P w K mg base CX0 (1) f_Draw d_Draw ["_law_state", "_law_many"] spDraw) (b_Draw : Binds K d_Draw ["_law_state", "_law_many"] []) (k_Draw : PySem.W.keepIn K (.ref f_Draw) = true) (m_Draw : mg "_law_draw" = some (.ref f_Draw))
    {f_Sgn : Addr} {d_Sgn : FuncData} (G_Sgn : FnOk P w K mg base CX0 (2) f_Sgn d_Sgn ["_law_state"] spSign) (b_Sgn : Binds K d_Sgn ["_law_state"] []) (k_Sgn : PySem.W.keepIn K (.ref f_Sgn) = true) (m_Sgn : mg "_law_sign" = some (.ref f_Sgn))
    (m_len : mg "len" = none) :
    FnOk P w K mg base CX0 (3) f fd ["_law_state", "_law_text"] spOth := by
  refine F.ok scOth (fun vs H Q E h => ?_) (fun cdv A outer s H vs Q E hr h => ?_)
  · obtain ⟨s, z, rfl, _⟩ := h
    rfl
  obtain ⟨s, z, rfl, D, hl, k⟩ := h
  have hu := hu_of hr
  have hr1 : Room 1 _ := hr.mono (by decide)
  have hr2 : Room 2 _ := hr.mono (by decide)
  refine ⟨_, (@pss_cons _ _ _ _ _ (ps_set (i := 2) scOth.nd rfl (Or.inl rfl) (pe_call G_Draw hr1 (by rfl) m_Draw k_Draw b_Draw .nil pass0 (pa_cons (pv 0) (pa_cons (pe_op op_add (pe_callB call_len_str (by rfl) m_len PySem.boot_len (pa_cons (pv 1) pa_nil)) pe_int) pa_nil))))
    (@pss_cons _ _ _ _ _ (ps_set (i := 3) scOth.nd rfl (Or.inl rfl) (pe_op op_add (pe_op op_add (pv 2) pe_int) (pe_call G_Draw hr1 (by rfl) m_Draw k_Draw b_Draw .nil pass0 (pa_cons (pv 0) (pa_cons pe_int pa_nil)))))
    (@pss_cons _ _ _ _ _ (ps_set (i := 4) scOth.nd rfl (Or.inl rfl) (pe_call G_Draw hr1 (by rfl) m_Draw k_Draw b_Draw .nil pass0 (pa_cons (pv 0) (pa_cons pe_int pa_nil))))
    (@pss_cons _ _ _ _ _ (ps_if (pt_cmpR op_lt (pv 4) pe_int (nomark _)) (pss_one (ps_ret (pe_op op_add_str (pe_slice sl_str (pv 1) po_none (po_some (pv 2))) (pe_slice sl_str (pv 1) (po_some (pe_op op_add (pv 2) pe_int)) po_none)))) pss_nil)
    (@pss_cons _ _ _ _ _ (ps_if (pt_cmpR op_eq (pv 4) pe_int (nomark _)) (pss_one (ps_ret (pe_op op_add_str (pe_op op_add_str (pe_slice sl_str (pv 1) po_none (po_some (pv 2))) (pe_call G_Sgn hr2 (by rfl) m_Sgn k_Sgn b_Sgn .nil pass0 (pa_cons (pv 0) pa_nil))) (pe_slice sl_str (pv 1) (po_some (pv 2)) po_none)))) pss_nil)
    (@pss_cons _ _ _ _ _ (ps_if (pt_cmpR op_lt (pv 4) pe_int (nomark _)) (pss_one (ps_ret (pe_op op_add_str (pe_op op_add_str (pe_slice sl_str (pv 1) po_none (po_some (pv 2))) (pe_call G_Sgn hr2 (by rfl) m_Sgn k_Sgn b_Sgn .nil pass0 (pa_cons (pv 0) pa_nil))) (pe_slice sl_str (pv 1) (po_some (pe_op op_add (pv 2) pe_int)) po_none)))) pss_nil)
    (@pss_cons _ _ _ _ _ (ps_if (pt_cmpR op_eq (pv 4) pe_int (nomark _)) (pss_one (ps_ret (pe_op op_add_str (pe_slice sl_str (pv 1) po_none (po_some (pv 3))) (pe_slice sl_str (pv 1) (po_some (pv 2)) po_none)))) pss_nil)
    (@pss_cons _ _ _ _ _ (ps_if (pt_cmpR op_eq (pv 4) pe_int (nomark _)) (pss_one (ps_ret (pe_op op_add_str (pe_slice sl_str (pv 1) po_none (po_some (pv 2))) (pe_slice sl_str (pv 1) (po_some (pv 3)) po_none)))) pss_nil)
    (@pss_cons _ _ _ _ _ (@ps_set _ _ 5 _ _ _ _ scOth.nd rfl (Or.inl rfl) (@pe_lst _ _ _ _ (@pa_cons _ _ _ _ _ pe_str (@pa_cons _ _ _ _ _ pe_str (@pa_cons _ _ _ _ _ pe_str (@pa_cons _ _ _ _ _ pe_str (@pa_cons _ _ _ _ _ pe_str (@pa_cons _ _ _ _ _ pe_str (@pa_cons _ _ _ _ _ pe_str (@pa_cons _ _ _ _ _ pe_str (@pa_cons _ _ _ _ _ pe_str (@pa_cons _ _ _ _ _ pe_str (@pa_cons _ _ _ _ _ pe_str (@pa_cons _ _ _ _ _ pe_str (@pa_cons _ _ _ _ _ pe_str pa_nil rfl) rfl) rfl) rfl) rfl) rfl) rfl) rfl) rfl) rfl) rfl) rfl) rfl)) rfl (Or.inl rfl))
    (@pss_cons _ _ _ _ _ (ps_set (i := 5) scOth.nd rfl (Or.inl rfl) (pe_op op_cat (pv 5) (pe_lst (pa_cons pe_str (pa_cons pe_str pa_nil)))))
    (@pss_one _ _ _ (ps_ret (pe_op op_add_str (pe_op op_add_str (pe_slice sl_str (pv 1) po_none (po_some (pv 2))) (pe_ix ix_list (pv 5) (pe_call G_Draw hr1 (by rfl) m_Draw k_Draw b_Draw .nil pass0 (pa_cons (pv 0) (pa_cons pe_int pa_nil))) (fun _ _ => rfl))) (pe_slice sl_str (pv 1) (po_some (pv 3)) po_none)))))))))))))), ?_⟩
  have hz : z.length ≤ sizeLine := Nat.le_of_lt (big4 (by omega))
  have sl := fun lo hi => Txt.slice_le z lo hi
  refine ⟨_, rfl, _, rfl, _, rfl, hz, _, _, rfl, rfl, s, _, rfl, D, by omega, by omega, fun a H1 a0 a1 D1 o1 => ?_⟩
  refine ⟨_, rfl, _, _, rfl, rfl, _, rfl, s, 4, rfl, D1, by decide, by decide, fun f H2 f0 f1 D2 o2 => ⟨_, _, rfl, rfl, ?_⟩⟩
  refine ⟨_, rfl, s, 8, rfl, D2, by decide, by decide, fun m H3 m0 m1 D3 o3 => ?_⟩
  have f3 := o1.trans (o2.trans o3)
  refine ⟨_, rfl, _, _, rfl, rfl, _, rfl, ?_⟩
  by_cases c1 : m < 2
  · refine iteP (decide_eq_true c1) ⟨_, rfl, _, rfl, a, rfl, z, rfl, hz, _, rfl, _, rfl, _, _, rfl, rfl, _, rfl, z, rfl, hz, ?_⟩
    have q1 := sl none (some a)
    have q2 := sl (some (a + 1)) none
    exact ⟨_, _, rfl, rfl, Nat.le_of_lt (big4 (by omega)), k _ _ (by rw [strLen_append]; omega) D3 f3⟩
  refine iteN (fun q => c1 (of_decide_eq_true q)) ⟨_, rfl, rfl, _, rfl, ?_⟩
  by_cases c2 : V.int m = .int 2
  · refine iteP (decide_eq_true c2) ⟨_, rfl, _, rfl, a, rfl, z, rfl, hz, _, rfl, s, rfl, D3, fun y H4 y1 D4 o4 => ?_⟩
    have q1 := sl none (some a)
    have q2 := sl (some a) none
    refine ⟨_, _, rfl, rfl, Nat.le_of_lt (big4 (by omega)), _, rfl, _, rfl, a, rfl, z, rfl, hz, ?_⟩
    exact ⟨_, _, rfl, rfl, Nat.le_of_lt (big4 (by rw [strLen_append]; omega)), k _ _ (by rw [strLen_append, strLen_append]; omega) D4 (f3.trans o4)⟩
  refine iteN (fun q => c2 (of_decide_eq_true q)) ⟨_, rfl, _, _, rfl, rfl, _, rfl, ?_⟩
  by_cases c3 : m < 5
  · refine iteP (decide_eq_true c3) ⟨_, rfl, _, rfl, a, rfl, z, rfl, hz, _, rfl, s, rfl, D3, fun y H4 y1 D4 o4 => ?_⟩
    have q1 := sl none (some a)
    have q2 := sl (some (a + 1)) none
    refine ⟨_, _, rfl, rfl, Nat.le_of_lt (big4 (by omega)), _, rfl, _, rfl, _, _, rfl, rfl, _, rfl, z, rfl, hz, ?_⟩
    exact ⟨_, _, rfl, rfl, Nat.le_of_lt (big4 (by rw [strLen_append]; omega)), k _ _ (by rw [strLen_append, strLen_append]; omega) D4 (f3.trans o4)⟩
  refine iteN (fun q => c3 (of_decide_eq_true q)) ⟨_, rfl, rfl, _, rfl, ?_⟩
  by_cases c4 : V.int m = .int 5
  · refine iteP (decide_eq_true c4) ⟨_, rfl, _, rfl, _, rfl, z, rfl, hz, _, rfl, _, rfl, a, rfl, z, rfl, hz, ?_⟩
    have q1 := sl none (some (a + 1 + f))
    have q2 := sl (some a) none
    exact ⟨_, _, rfl, rfl, Nat.le_of_lt (big4 (by omega)), k _ _ (by rw [strLen_append]; omega) D3 f3⟩
  refine iteN (fun q => c4 (of_decide_eq_true q)) ⟨_, rfl, rfl, _, rfl, ?_⟩
  by_cases c5 : V.int m = .int 6
  · refine iteP (decide_eq_true c5) ⟨_, rfl, _, rfl, a, rfl, z, rfl, hz, _, rfl, _, rfl, _, rfl, z, rfl, hz, ?_⟩
    have q1 := sl none (some a)
    have q2 := sl (some (a + 1 + f)) none
    exact ⟨_, _, rfl, rfl, Nat.le_of_lt (big4 (by omega)), k _ _ (by rw [strLen_append]; omega) D3 f3⟩
  refine iteN (fun q => c5 (of_decide_eq_true q)) ?_
  refine ⟨by show 13 ≤ sizeLine; decide, fun l1 hl1 => ?_⟩
  have s1 := same_new hl1 (.lst [.str "of", .str "+1", .str "-1", .str "1_0", .str "01", .str "1000", .str "00", .str "a1", .str "1a", .str "abcdefghi", .str "A", .str "(1)", .str "(+ 1)"])
  have h1 : upd H3 l1 (.lst [.str "of", .str "+1", .str "-1", .str "1_0", .str "01", .str "1000", .str "00", .str "a1", .str "1a", .str "abcdefghi", .str "A", .str "(1)", .str "(+ 1)"]) l1 = some (.lst (sm1.map V.str)) := upd_same
  generalize upd H3 l1 (.lst [.str "of", .str "+1", .str "-1", .str "1_0", .str "01", .str "1000", .str "00", .str "a1", .str "1a", .str "abcdefghi", .str "A", .str "(1)", .str "(+ 1)"]) = G1 at s1 h1 ⊢
  refine ⟨_, rfl, by show 2 ≤ sizeLine; decide, fun l2 hl2 => ?_⟩
  have s2 := s1.trans (same_new hl2 (.lst [.str "(+ 1 2 3)", .str "else"]))
  have h12 := (same_new hl2 (.lst [.str "(+ 1 2 3)", .str "else"])) _ _ h1
  have h2 : upd G1 l2 (.lst [.str "(+ 1 2 3)", .str "else"]) l2 = some (.lst (sm2.map V.str)) := upd_same
  generalize upd G1 l2 (.lst [.str "(+ 1 2 3)", .str "else"]) = G2 at s2 h12 h2 ⊢
  refine ⟨l1, l2, _, _, rfl, rfl, h12, h2, Nat.le_of_lt (big4 (by decide)), fun l3 hl3 => ?_⟩
  have s3 := s2.trans (same_new hl3 (.lst ((sm1 ++ sm2).map V.str)))
  have h3 : upd G2 l3 (.lst ((sm1 ++ sm2).map V.str)) l3 = some (.lst ((sm1 ++ sm2).map V.str)) := upd_same
  rw [← List.map_append]
  generalize upd G2 l3 (.lst ((sm1 ++ sm2).map V.str)) = G3 at s3 h3 ⊢
  have nl : l3 ≠ s := fun q => by
    obtain ⟨c, ns, x, b, i, e, _⟩ := D3.same s2
    rw [q, e] at hl3; cases hl3
  refine ⟨_, rfl, _, rfl, a, rfl, z, rfl, hz, _, rfl, _, rfl, s, 15, rfl, D3.same s3, by decide, by decide, fun x H4 x0 x1 D4 o4 => ?_⟩
  obtain ⟨v, hv, ha⟩ := at_nat (xs := (sm1 ++ sm2).map V.str) x0 x1
  obtain ⟨w, rfl, hw⟩ := strs_at hv
  have w9 : w.length ≤ 9 := by
    have : ∀ w ∈ sm1 ++ sm2, w.length ≤ 9 := by decide +kernel
    exact this w (List.mem_of_getElem? hw)
  have q1 := sl none (some a)
  have q2 := sl (some (a + 1 + f)) none
  refine ⟨l3, _, _, .str w, rfl, rfl, SqL.of (off_at o4 h3 nl), ha, _, _, rfl, rfl, Nat.le_of_lt (big4 (by omega)), _, rfl, _, rfl, _, rfl, z, rfl, hz, ?_⟩
  exact ⟨_, _, rfl, rfl, Nat.le_of_lt (big4 (by rw [strLen_append]; omega)), k _ _ (by rw [strLen_append, strLen_append]; omega) D4 (f3.trans ((Off.of s3).trans o4))⟩
end
end Mine
namespace Mine
open PySem L2
section
variable {P : Program} {w : World} {K : PySem.W.Frag} {mg : Str → Option Value} {base : Heap}
theorem scTold : FnScope ["_law_text", "_law_found", "_law_caught", "e", "_law_good"] ["_law_text"] (defScope sTold) := ⟨rfl, rfl, rfl, by decide +kernel, rfl, by decide +kernel, by decide +kernel⟩
theorem ok_Told {f : Addr} {fd : FuncData} (F : Fun K "_law_told" "_law_told" sTold f fd)
    {cN D c1 c2 c3 c4 c5 c6 : Addr} (m_ThrowError : mg "ThrowError" = some (.ref D)) (m_NoText : mg "NoText" = some (.ref cN)) (m_NoFit : mg "NoFit" = some (.ref c1)) (m_NoPaper : mg "NoPaper" = some (.ref c2)) (m_NoProgram : mg "NoProgram" = some (.ref c3)) (m_NoRow : mg "NoRow" = some (.ref c4)) (m_NoRows : mg "NoRows" = some (.ref c5)) (m_TooMany : mg "TooMany" = some (.ref c6)) (U : XUp K D) (XF : XFam1 K cN [c1, c2, c3, c4, c5, c6] D) (n0 : NoAttr K cN "row")
    {f_RdT : Addr} {d_RdT : FuncData} (G_RdT : FnOk P w K mg base (CX2 P w) (5) f_RdT d_RdT ["text"] (spRT cN)) (b_RdT : Binds K d_RdT ["text"] []) (k_RdT : PySem.W.keepIn K (.ref f_RdT) = true) (m_RdT : mg "read_term" = some (.ref f_RdT))
    (m_isinstance : mg "isinstance" = none) (m_int : mg "int" = none) (m_ValueError : mg "ValueError" = none) (m_bool : mg "bool" = none) :
    FnOk P w K mg base CX0 (6) f fd ["_law_text"] spTold := by
  refine F.ok0 scTold (fun vs H Q E h => ?_) (fun cdv A outer s H vs Q E hr h => ?_)
  · obtain ⟨z, rfl, _⟩ := h
    rfl
  obtain ⟨z, rfl, hl, k1, k2⟩ := h
  have hu := hu_of hr
  have hr1 : Room 1 _ := hr.mono (by decide)
  have hr5 : Room 5 _ := hr.mono (by decide)
  refine ⟨_, (p0_cons (PS.p0 (ps_set (i := 1) scTold.nd rfl (Or.inl rfl) pe_non))
    (p0_cons (PS.p0 (ps_set (i := 2) scTold.nd rfl (Or.inl rfl) pe_non))
    (p0_cons (ps0_try2 (i := 3) rfl rfl rfl scTold.nd rfl rfl rfl (by rfl) m_ThrowError U
      (fun Ex E1 ps => pss_one (ps_set (i := 1) scTold.nd rfl (Or.inl rfl) (pe_call G_RdT hr5 (by rfl) m_RdT k_RdT b_RdT .nil ps (pa_cons (pv 0) pa_nil))))
      (fun x => pss_one (ps_set (i := 2) scTold.nd rfl (Or.inl rfl) (pv 3))))
    (PSs.p0 (pss_cons (ps_if (pt_cmp (pc_isN (pv 2))) (pss_one (ps_ret (pe_tup (pa_cons pe_str (pa_cons (pv 1) pa_nil))))) pss_nil)
    (pss_cons (ps_if (PW.pt (pw_or (pt_val (pe_callB call_isN (by rfl) m_isinstance PyProof.Rows.boot_isinstance (pa_cons (pv 2) (pa_cons (pe_tup (pa_cons (pe_glob (v := .ref c1) (by rfl) m_NoFit rfl) (pa_cons (pe_glob (v := .ref c2) (by rfl) m_NoPaper rfl) (pa_cons (pe_glob (v := .ref c3) (by rfl) m_NoProgram rfl) (pa_cons (pe_glob (v := .ref c4) (by rfl) m_NoRow rfl) (pa_cons (pe_glob (v := .ref c5) (by rfl) m_NoRows rfl) (pa_cons (pe_glob (v := .ref c6) (by rfl) m_TooMany rfl) pa_nil))))))) pa_nil)))) (pw_or1 (pt_not (pt_val (pe_callB call_isX (by rfl) m_isinstance PyProof.Rows.boot_isinstance (pa_cons (pv 2) (pa_cons (pe_bltn (v := .ty "ValueError") (by rfl) m_ValueError boot_VE rfl) pa_nil)))))))) (pss_one (ps_ret (pe_tup (pa_cons pe_str pa_nil)))) pss_nil)
    (pss_cons (ps_set (i := 4) scTold.nd rfl (Or.inl rfl) (pe_and (pe_callB call_isX (by rfl) m_isinstance PyProof.Rows.boot_isinstance (pa_cons (pv 2) (pa_cons (pe_glob (v := .ref cN) (by rfl) m_NoText rfl) pa_nil))) (pe_and (pe_callB call_isinst (by rfl) m_isinstance PyProof.Rows.boot_isinstance (pa_cons (pe_xfld (pv 2) rfl) (pa_cons (pe_bltn (v := .ty "int") (by rfl) m_int PyProof.Rows.boot_int rfl) pa_nil))) (pe_one (pe_not (pe_callB call_isinst (by rfl) m_isinstance PyProof.Rows.boot_isinstance (pa_cons (pe_xfld (pv 2) rfl) (pa_cons (pe_bltn (v := .ty "bool") (by rfl) m_bool PyProof.Rows.boot_bool rfl) pa_nil))))))))
    (pss_one (ps_ret (pe_tup (pa_cons pe_str (pa_cons (pe_and (pv 4) (pe_one (pe_cmpR op_eq (pe_xfld (pv 2) rfl) pe_int (nomark _)))) pa_nil)))))))))))), ?_⟩
  refine ⟨_, rfl, z, rfl, hl, fun T p H1 it s1 ph => ?_, fun nt dx H1 s1 hd => ?_⟩
  · refine ⟨_, rfl, _, rfl, iteP (decide_eq_true rfl) ?_⟩
    exact ⟨_, rfl, by show 2 ≤ sizeLine; decide, fun q hq => k1 T p q _ it (s1.trans (same_new hq _)) (ph.ts (.of (same_new hq _))) upd_same⟩
  · refine ⟨cN, dx, rfl, rfl, XF.over, fun σ x hl2 hx => ?_⟩
    obtain ⟨v0, v1, v2, v3, v4, rfl⟩ := len5 hl2
    have s2 := s1.trans (same_new hx (XD x cN dx))
    have x2 : upd H1 x (XD x cN dx) x = some (XD x cN dx) := upd_same
    have d2 := (same_new hx (XD x cN dx)) _ _ hd
    generalize upd H1 x (XD x cN dx) = H2 at s2 x2 d2 ⊢
    refine ⟨_, rfl, ?_⟩
    refine ⟨_, rfl, _, rfl, iteN (fun q => by have q := of_decide_eq_true q; cases q) ?_⟩
    refine ⟨_, rfl, by show 6 ≤ sizeLine; decide, fun t ht => ?_⟩
    have s3 := s2.trans (same_new ht (.tup [.ref c1, .ref c2, .ref c3, .ref c4, .ref c5, .ref c6]))
    have h3 : upd H2 t (.tup [.ref c1, .ref c2, .ref c3, .ref c4, .ref c5, .ref c6]) t = some (.tup [.ref c1, .ref c2, .ref c3, .ref c4, .ref c5, .ref c6]) := upd_same
    have x3 := (same_new ht (.tup [.ref c1, .ref c2, .ref c3, .ref c4, .ref c5, .ref c6])) _ _ x2
    have d3 := (same_new ht (.tup [.ref c1, .ref c2, .ref c3, .ref c4, .ref c5, .ref c6])) _ _ d2
    generalize upd H2 t (.tup [.ref c1, .ref c2, .ref c3, .ref c4, .ref c5, .ref c6]) = H3 at s3 h3 x3 d3 ⊢
    have at3 : XAt H3 x cN := .inr ⟨dx, _, x3, d3⟩
    have fld : List.lookup ("row" : Str) ([("row", V.int 0)] : List (Str × V)) = some (V.int 0) := rfl
    refine ⟨x, t, cN, D, [c1, c2, c3, c4, c5, c6], rfl, SqT.of h3, at3, XF.over, XF.is, fun c hc => XF.kit hc, _, rfl, iteN (by decide) ?_⟩
    refine ⟨_, rfl, x, .ty "ValueError", cN, D, true, rfl, ⟨D, .inr ⟨_, rfl, XF.ve⟩⟩, at3, XF.over, XF.is, _, rfl, iteN (by decide) ?_⟩
    refine ⟨_, rfl, x, .ref cN, cN, D, true, rfl, ⟨cN, .inl ⟨rfl, XF.self⟩⟩, at3, XF.over, XF.is, _, rfl, iteP rfl ?_⟩
    refine ⟨_, rfl, x, cN, D, dx, _, .int 0, rfl, x3, d3, XF.over, n0, fld, _, "int", _, true, rfl, .int _, rfl, _, rfl, iteP rfl ?_⟩
    refine ⟨_, rfl, x, cN, D, dx, _, .int 0, rfl, x3, d3, XF.over, n0, fld, _, "bool", _, false, rfl, .int _, rfl, _, rfl, ?_⟩
    refine ⟨_, rfl, _, rfl, iteP rfl ?_⟩
    refine ⟨_, rfl, x, cN, D, dx, _, .int 0, rfl, x3, d3, XF.over, n0, fld, rfl, by show 2 ≤ sizeLine; decide, fun q hq => ?_⟩
    exact k2 nt q _ (s3.trans (same_new hq _)) upd_same
end
end Mine
namespace Mine
open PySem L2
section
variable {P : Program} {w : World} {K : PySem.W.Frag} {mg : Str → Option Value} {base : Heap}
theorem scRgt : FnScope ["_law_text", "_law_due", "_law_found"] ["_law_text"] (defScope sRgt) := ⟨rfl, rfl, rfl, by decide +kernel, rfl, by decide +kernel, by decide +kernel⟩
theorem ok_Rgt {f : Addr} {fd : FuncData} (F : Fun K "_law_right" "_law_right" sRgt f fd)
    {f_Rdd : Addr} {d_Rdd : FuncData} (G_Rdd : FnOk P w K mg base CX0 (12) f_Rdd d_Rdd ["_law_text"] (spRd 11)) (b_Rdd : Binds K d_Rdd ["_law_text"] []) (k_Rdd : PySem.W.keepIn K (.ref f_Rdd) = true) (m_Rdd : mg "_law_read" = some (.ref f_Rdd))
    {f_Told : Addr} {d_Told : FuncData} (G_Told : FnOk P w K mg base CX0 (6) f_Told d_Told ["_law_text"] spTold) (b_Told : Binds K d_Told ["_law_text"] []) (k_Told : PySem.W.keepIn K (.ref f_Told) = true) (m_Told : mg "_law_told" = some (.ref f_Told))
    {f_Alk : Addr} {d_Alk : FuncData} (G_Alk : FnOk P w K mg base CX0 (14) f_Alk d_Alk ["_law_found", "_law_due"] (spAl 13)) (b_Alk : Binds K d_Alk ["_law_found", "_law_due"] []) (k_Alk : PySem.W.keepIn K (.ref f_Alk) = true) (m_Alk : mg "_law_alike" = some (.ref f_Alk))
     :
    FnOk P w K mg base CX0 (15) f fd ["_law_text"] spRight := by
  refine F.ok scRgt (fun vs H Q E h => ?_) (fun cdv A outer s H vs Q E hr h => ?_)
  · obtain ⟨z, rfl, _⟩ := h
    rfl
  obtain ⟨z, rfl, hl, hc, k⟩ := h
  have hu := hu_of hr
  have hr1 : Room 1 _ := hr.mono (by decide)
  have hr6 : Room 6 _ := hr.mono (by decide)
  have hr12 : Room 12 _ := hr.mono (by decide)
  have hr14 : Room 14 _ := hr.mono (by decide)
  refine ⟨_, (pss_cons (ps_set (i := 1) scRgt.nd rfl (Or.inl rfl) (pe_call G_Rdd hr12 (by rfl) m_Rdd k_Rdd b_Rdd .nil pass0 (pa_cons (pv 0) pa_nil)))
    (pss_cons (ps_set (i := 2) scRgt.nd rfl (Or.inl rfl) (pe_call G_Told hr6 (by rfl) m_Told k_Told b_Told .nil pass0 (pa_cons (pv 0) pa_nil)))
    (pss_cons (ps_if (pt_cmp (pc_isN (pv 1))) (pss_one (ps_ret (pe_cmpR (op_eqD hr1) (pv 2) (pe_tup (pa_cons pe_str (pa_cons pe_bl pa_nil))) (nomark _)))) pss_nil)
    (pss_one (ps_ret (pe_call G_Alk hr14 (by rfl) m_Alk k_Alk b_Alk .nil pass0 (pa_cons (pv 2) (pa_cons (pe_tup (pa_cons pe_str (pa_cons (pv 1) pa_nil))) pa_nil)))))))), ?_⟩
  have ri : ∀ T, readB 11 (sL z) = some T ↔ isT z T := fun T => readB_iff hc
  refine ⟨_, rfl, z, rfl, by omega, by decide, hc, fun e H1 s1 => ?_, fun T p H1 e s1 ph => ?_⟩
  · have nt : ∀ T, ¬ isT z T := fun T q => by rw [(ri T).mpr q] at e; cases e
    refine ⟨_, rfl, z, rfl, by omega, fun T p q H2 it => absurd it (nt T), fun _ q H2 s2 h2 => ?_⟩
    refine ⟨_, rfl, _, rfl, iteP (decide_eq_true rfl) ?_⟩
    refine ⟨_, rfl, by show 2 ≤ sizeLine; decide, fun r hr => ?_⟩
    have s3 := same_new hr (.tup [.str "refused", .bl true])
    have h3 : upd H2 r (.tup [.str "refused", .bl true]) r = some (.tup [.str "refused", .bl true]) := upd_same
    have g3 := s3 _ _ h2
    generalize upd H2 r (.tup [.str "refused", .bl true]) = H3 at s3 h3 g3 ⊢
    have sh : SeqAt.shaped (.tuple [.str "refused", .bool true]) = true := by decide +kernel
    refine ⟨.tuple [.str "refused", .bool true], .tuple [.str "refused", .bool true], ⟨q, _, rfl, SqT.of g3, _, _, rfl, rfl, _, _, rfl, rfl, rfl⟩, ⟨r, _, rfl, SqT.of h3, _, _, rfl, rfl, _, _, rfl, rfl, rfl⟩, sh, sh, by decide +kernel, ?_⟩
    have e : Spec.same (.tuple [.str "refused", .bool true]) (.tuple [.str "refused", .bool true]) = true := by decide +kernel
    rw [e]
    exact k _ (s1.trans (s2.trans s3))
  · have it := (ri T).mp e
    refine ⟨_, rfl, z, rfl, by omega, fun T2 p2 q H2 it2 s2 ph2 h2 => ?_, fun nt => absurd it (nt T)⟩
    have eT : T2 = T := by
      have := (ri T2).mpr it2
      rw [e] at this
      exact (Option.some.inj this).symm
    subst eT
    refine ⟨_, rfl, _, rfl, iteN (fun q => by have q := of_decide_eq_true q; cases q) ?_⟩
    refine ⟨_, rfl, _, rfl, by show 2 ≤ sizeLine; decide, fun r hr => ?_⟩
    have s3 := same_new hr (.tup [.str "term", .ref p])
    have dp : dep T2 ≤ 11 := by
      have := dep_cnt it.1
      rw [← it.2] at this
      omega
    exact ⟨.ref q, .ref r, rfl, al_term dp (ph2.ts (.of s3)) (ph.ts (.of (s2.trans s3))) (s3 _ _ h2) upd_same, fun H4 s4 => k _ (s1.trans (s2.trans (s3.trans s4)))⟩
end
end Mine
namespace Mine
open PySem L2
section
variable {P : Program} {w : World} {K : PySem.W.Frag} {mg : Str → Option Value} {base : Heap}
theorem nd_Law1 : (["_law_k", "_law_state"] : List Str).Nodup := by decide +kernel
theorem scLaw : FnScope ["_law_script", "_law_state", "_law_names", "_law_sizes", "_law_term_here", "_law_text", "_law_k", "_law_other", "_law_j", "_law_at"] ["_law_script"] (defScope sLaw) := ⟨rfl, rfl, rfl, by decide +kernel, rfl, by decide +kernel, by decide +kernel⟩
theorem ok_Law {f : Addr} {fd : FuncData} (F : Fun K "law" "law" sLaw f fd)
    {cN : Addr}
    {f_Trm : Addr} {d_Trm : FuncData} (G_Trm : FnOk P w K mg base CX0 (12) f_Trm d_Trm ["_law_state", "_law_names", "_law_room", "_law_deep"] (spTm 11)) (b_Trm : Binds K d_Trm ["_law_state", "_law_names", "_law_room", "_law_deep"] []) (k_Trm : PySem.W.keepIn K (.ref f_Trm) = true) (m_Trm : mg "_law_term" = some (.ref f_Trm))
    {f_TTx : Addr} {d_TTx : FuncData} (G_TTx : FnOk P w K mg base CX0 (12) f_TTx d_TTx ["_law_term_here"] (spTT 11)) (b_TTx : Binds K d_TTx ["_law_term_here"] []) (k_TTx : PySem.W.keepIn K (.ref f_TTx) = true) (m_TTx : mg "_law_term_text" = some (.ref f_TTx))
    {f_Nam : Addr} {d_Nam : FuncData} (G_Nam : FnOk P w K mg base CX0 (2) f_Nam d_Nam ["_law_state"] spNam) (b_Nam : Binds K d_Nam ["_law_state"] []) (k_Nam : PySem.W.keepIn K (.ref f_Nam) = true) (m_Nam : mg "_law_name" = some (.ref f_Nam))
    {f_Draw : Addr} {d_Draw : FuncData} (G_Draw : FnOk P w K mg base CX0 (1) f_Draw d_Draw ["_law_state", "_law_many"] spDraw) (b_Draw : Binds K d_Draw ["_law_state", "_law_many"] []) (k_Draw : PySem.W.keepIn K (.ref f_Draw) = true) (m_Draw : mg "_law_draw" = some (.ref f_Draw))
    {f_Rgt : Addr} {d_Rgt : FuncData} (G_Rgt : FnOk P w K mg base CX0 (15) f_Rgt d_Rgt ["_law_text"] spRight) (b_Rgt : Binds K d_Rgt ["_law_text"] []) (k_Rgt : PySem.W.keepIn K (.ref f_Rgt) = true) (m_Rgt : mg "_law_right" = some (.ref f_Rgt))
    {f_Alk : Addr} {d_Alk : FuncData} (G_Alk : FnOk P w K mg base CX0 (14) f_Alk d_Alk ["_law_found", "_law_due"] (spAl 13)) (b_Alk : Binds K d_Alk ["_law_found", "_law_due"] []) (k_Alk : PySem.W.keepIn K (.ref f_Alk) = true) (m_Alk : mg "_law_alike" = some (.ref f_Alk))
    {f_Shw : Addr} {d_Shw : FuncData} (G_Shw : FnOk P w K mg base CX0 (1) f_Shw d_Shw ["term"] spShow) (b_Shw : Binds K d_Shw ["term"] []) (k_Shw : PySem.W.keepIn K (.ref f_Shw) = true) (m_Shw : mg "show_term" = some (.ref f_Shw))
    {f_Oth : Addr} {d_Oth : FuncData} (G_Oth : FnOk P w K mg base CX0 (3) f_Oth d_Oth ["_law_state", "_law_text"] spOth) (b_Oth : Binds K d_Oth ["_law_state", "_law_text"] []) (k_Oth : PySem.W.keepIn K (.ref f_Oth) = true) (m_Oth : mg "_law_otherwise" = some (.ref f_Oth))
    {f_Told : Addr} {d_Told : FuncData} (G_Told : FnOk P w K mg base CX0 (6) f_Told d_Told ["_law_text"] spTold) (b_Told : Binds K d_Told ["_law_text"] []) (k_Told : PySem.W.keepIn K (.ref f_Told) = true) (m_Told : mg "_law_told" = some (.ref f_Told))
    {f_RdT : Addr} {d_RdT : FuncData} (G_RdT : FnOk P w K mg base (CX2 P w) (5) f_RdT d_RdT ["text"] (spRT cN)) (b_RdT : Binds K d_RdT ["text"] []) (k_RdT : PySem.W.keepIn K (.ref f_RdT) = true) (m_RdT : mg "read_term" = some (.ref f_RdT))
    (m_range : mg "range" = none) (m_list : mg "list" = none) (m_len : mg "len" = none) :
    FnOk P w K mg base CX0 (16) f fd ["_law_script"] (spLawK K) := by
  refine F.ok scLaw (fun vs H Q E h => ?_) (fun cdv A outer s H vs Q E hr h => ?_)
  · obtain ⟨a, ns, rfl, _⟩ := h
    rfl
  obtain ⟨a, ns, rfl, hS, hlen, k⟩ := h
  have hu := hu_of hr
  have hr1 : Room 1 _ := hr.mono (by decide)
  have hr2 : Room 2 _ := hr.mono (by decide)
  have hr3 : Room 3 _ := hr.mono (by decide)
  have hr5 : Room 5 _ := hr.mono (by decide)
  have hr6 : Room 6 _ := hr.mono (by decide)
  have hr15 : Room 15 _ := hr.mono (by decide)
  have hr12 : Room 12 _ := hr.mono (by decide)
  have hr12 : Room 12 _ := hr.mono (by decide)
  have hr14 : Room 14 _ := hr.mono (by decide)
  refine ⟨_, (@pss_cons _ _ _ _ _ (ps_set (i := 1) scLaw.nd rfl (Or.inr rfl) (pe_lst (pa_cons (pe_callTy call_list_of (by rfl) m_list PyProof.Rows.boot_list (pa_cons (pv 0) pa_nil)) (pa_cons pe_int (pa_cons pe_int (pa_cons pe_int pa_nil))))))
    (@pss_cons _ _ _ _ _ (ps_setC ["_law_k", "_law_state"] [none, some 1] (i := 2) scLaw.nd rfl (Or.inl rfl) (pi_range1 (by rfl) m_range (pa_cons pe_int pa_nil)) (fun _ _ _ _ => (pg_name (i := 0) (nd_Law1) rfl (Or.inl rfl))) (fun _ _ _ _ => pf_nil) (fun _ _ _ _ => (pe_call G_Nam hr2 (by rfl) m_Nam k_Nam b_Nam .nil pass0 (pa_cons (pv 1) pa_nil))))
    (@pss_cons _ _ _ _ _ (@ps_set _ _ 3 _ _ _ _ scLaw.nd rfl (Or.inl rfl) (pe_ix ix_list (@pe_lst _ _ _ _ (@pa_pairs _ _ [(12, 6), (12, 6), (30, 10)] rfl)) (pe_call G_Draw hr1 (by rfl) m_Draw k_Draw b_Draw .nil pass0 (pa_cons (pv 1) (pa_cons pe_int pa_nil))) (fun _ _ => rfl)) rfl (Or.inl rfl))
    (@pss_cons _ _ _ _ _ (ps_set (i := 4) scLaw.nd rfl (Or.inl rfl) (pe_call G_Trm hr12 (by rfl) m_Trm k_Trm b_Trm .nil pass0 (pa_cons (pv 1) (pa_cons (pv 2) (pa_cons (pe_op op_add pe_int (pe_call G_Draw hr1 (by rfl) m_Draw k_Draw b_Draw .nil pass0 (pa_cons (pv 1) (pa_cons (pe_ix ix_tup (pv 3) pe_int (fun _ _ => rfl)) pa_nil)))) (pa_cons (pe_ix ix_tup (pv 3) pe_int (fun _ _ => rfl)) pa_nil))))))
    (@pss_cons _ _ _ _ _ (ps_set (i := 5) scLaw.nd rfl (Or.inl rfl) (pe_call G_TTx hr12 (by rfl) m_TTx k_TTx b_TTx .nil pass0 (pa_cons (pv 4) pa_nil)))
    (@pss_cons _ _ _ _ _ (ps_if (pt_post (PW.pt (pw_or (pt_not (pt_val (pe_call G_Alk hr14 (by rfl) m_Alk k_Alk b_Alk .nil pass0 (pa_cons (pe_call G_Told hr6 (by rfl) m_Told k_Told b_Told .nil pass0 (pa_cons (pv 5) pa_nil)) (pa_cons (pe_tup (pa_cons pe_str (pa_cons (pv 4) pa_nil))) pa_nil))))) (pw_or1 (pt_cmpR op_ne (pe_call G_Shw hr1 (by rfl) m_Shw k_Shw b_Shw .nil pass0 (pa_cons (pe_call G_RdT hr5 (by rfl) m_RdT k_RdT b_RdT .nil pass2 (pa_cons (pv 5) pa_nil)) pa_nil)) (pv 5) (nomark _)))))) (pss_one (ps_ret pe_bl)) pss_nil)
    (@pss_cons _ _ _ _ _ (ps_if (pt_post (PW.pt (pw_and (pt_cmpR op_eq (pe_ix ix_tup (pv 3) pe_int (fun _ _ => rfl)) pe_int (nomark _)) (pw_and1 (pt_cmpR op_ne (pe_call G_Shw hr1 (by rfl) m_Shw k_Shw b_Shw .nil pass0 (pa_cons (pv 4) pa_nil)) (pv 5) (nomark _)))))) (pss_one (ps_ret pe_bl)) pss_nil)
    (@pss_cons _ _ _ _ _ (ps_for PassesOwn.never rfl (pi_range1 (by rfl) m_range (pa_cons pe_int pa_nil)) (pg_name (i := 6) scLaw.nd rfl (Or.inl rfl))
    (pss_cons (ps_set (i := 7) scLaw.nd rfl (Or.inl rfl) (pv 5))
    (pss_cons (ps_for PassesOwn.never rfl (pi_range1 (by rfl) m_range (pa_cons (pe_op op_add pe_int (pe_call G_Draw hr1 (by rfl) m_Draw k_Draw b_Draw .nil pass0 (pa_cons (pv 1) (pa_cons pe_int pa_nil)))) pa_nil)) (pg_name (i := 8) scLaw.nd rfl (Or.inl rfl))
    (pss_one (ps_set (i := 7) scLaw.nd rfl (Or.inl rfl) (pe_call G_Oth hr3 (by rfl) m_Oth k_Oth b_Oth .nil pass0 (pa_cons (pv 1) (pa_cons (pv 7) pa_nil))))))
    (pss_one (ps_if (pt_post (PW.pt (pw_and (pt_cmpR op_lt (pe_bm PySem.F.plainAttrs_str PySem.F.slot_str_count PySem.F.type_str_count mt_count (pv 7) (pa_cons pe_str pa_nil)) pe_int (nomark _)) (pw_and1 (pt_not (pt_val (pe_call G_Rgt hr15 (by rfl) m_Rgt k_Rgt b_Rgt .nil pass0 (pa_cons (pv 7) pa_nil)))))))) (pss_one (ps_ret pe_bl)) pss_nil)))))
    (@pss_cons _ _ _ _ _ (ps_post (ps_if (pt_cmpR op_lt (pe_callB call_len_str (by rfl) m_len PySem.boot_len (pa_cons (pv 5) pa_nil)) pe_int (nomark _)) (pss_one (ps_for PassesOwn.never rfl (pi_range1 (by rfl) m_range (pa_cons (pe_callB call_len_str (by rfl) m_len PySem.boot_len (pa_cons (pv 5) pa_nil)) pa_nil)) (pg_name (i := 9) scLaw.nd rfl (Or.inl rfl))
    (pss_one (ps_if (pt_not (pt_val (pe_call G_Rgt hr15 (by rfl) m_Rgt k_Rgt b_Rgt .nil pass0 (pa_cons (pe_op op_add_str (pe_slice sl_str (pv 5) po_none (po_some (pv 9))) (pe_slice sl_str (pv 5) (po_some (pe_op op_add (pv 9) pe_int)) po_none)) pa_nil)))) (pss_one (ps_ret pe_bl)) pss_nil)))) pss_nil))
    (@pss_one _ _ _ (ps_ret (pe_and (pe_call G_Rgt hr15 (by rfl) m_Rgt k_Rgt b_Rgt .nil pass0 (pa_cons pe_str pa_nil)) (pe_one (pe_call G_Alk hr14 (by rfl) m_Alk k_Alk b_Alk .nil pass0 (pa_cons (pe_call G_Told hr6 (by rfl) m_Told k_Told b_Told .nil pass0 (pa_cons (pv 5) pa_nil)) (pa_cons (pe_tup (pa_cons pe_str (pa_cons (pv 4) pa_nil))) pa_nil)))))))))))))))), ?_⟩
  refine ⟨_, rfl, a, _, rfl, .inl hS, fun c hc => ?_⟩
  have c1 : upd H c (.lst (ns.map V.int)) c = some (.lst (ns.map V.int)) := upd_same
  generalize upd H c (.lst (ns.map V.int)) = H1 at c1 ⊢
  refine ⟨by show 4 ≤ sizeLine; decide, fun s hs => ?_⟩
  have D2 : Dw (upd H1 s (.lst [.ref c, .int 0, .int 0, .int 0])) s := ⟨c, ns, 0, 0, 0, upd_same, (upd_ne (ne_of_none c1 hs)).trans c1, (ne_of_none c1 hs).symm, by decide, by decide, by decide, hlen⟩
  generalize upd H1 s (.lst [.ref c, .int 0, .int 0, .int 0]) = H2 at D2 ⊢
  refine ⟨3, rfl, by decide, by decide, comp_range (n := 3) (fun i ys σ G => Dw G s ∧ (∃ v, σ = [v, some (.ref s)]) ∧ ∃ zs : List Str, ys = zs.map V.str ∧ zs.length = i ∧ ∀ z ∈ zs, nmOk (sL z)) (big4 (by decide)) ⟨D2, ⟨_, rfl⟩, [], rfl, rfl, fun _ z => absurd z List.not_mem_nil⟩ (by rintro i ys σ G ⟨_, _, zs, e, e2, _⟩; rw [e, List.length_map]; omega) ?_ ?_⟩
  · rintro i ys σ G hi ⟨D3, ⟨v, rfl⟩, zs, rfl, hl, hz⟩
    refine ⟨_, rfl, s, rfl, D3, fun z G2 nz D4 o4 => ⟨D4, ⟨_, rfl⟩, zs ++ [z], by rw [List.map_append]; rfl, by rw [List.length_append, hl]; rfl, fun y hy => ?_⟩⟩
    rcases List.mem_append.mp hy with q | q
    · exact hz y q
    · rw [List.mem_singleton.mp q]; exact nz
  rintro ys σ G ⟨D3, _, zs, rfl, zl, zok⟩ nl hnl
  have nn := D3.ne hnl
  have hn : upd G nl (.lst (zs.map V.str)) nl = some (.lst (zs.map V.str)) := upd_same
  have D4 := D3.same (same_new hnl (.lst (zs.map V.str)))
  generalize upd G nl (.lst (zs.map V.str)) = H4 at hn D4 ⊢
  refine fun vs H5 s5 pt => ?_
  obtain ⟨t1, t2, t3, rfl, p1, p2, p3⟩ : ∃ t1 t2 t3, vs = [.ref t1, .ref t2, .ref t3] ∧ H5 t1 = some (.tup [.int 12, .int 6]) ∧ H5 t2 = some (.tup [.int 12, .int 6]) ∧ H5 t3 = some (.tup [.int 30, .int 10]) := by
    rcases vs with _ | ⟨_, _ | ⟨_, _ | ⟨_, _ | ⟨_, _⟩⟩⟩⟩
    · exact pt.elim
    · exact pt.2.elim
    · exact pt.2.2.elim
    · obtain ⟨⟨t1, rfl, p1⟩, ⟨t2, rfl, p2⟩, ⟨t3, rfl, p3⟩, _⟩ := pt
      exact ⟨t1, t2, t3, rfl, p1, p2, p3⟩
    · exact pt.2.2.2.elim
  refine ⟨by show 3 ≤ sizeLine; decide, fun lz hlz => ?_⟩
  have s6 := same_new hlz (.lst [.ref t1, .ref t2, .ref t3])
  have h6 : upd H5 lz (.lst [.ref t1, .ref t2, .ref t3]) lz = some (.lst [.ref t1, .ref t2, .ref t3]) := upd_same
  have D5 := D4.same s5
  have nz := D5.ne hlz
  generalize upd H5 lz (.lst [.ref t1, .ref t2, .ref t3]) = H6 at s6 h6 ⊢
  have D6 := D5.same s6
  have hn6 := s6 _ _ (s5 _ _ hn)
  replace p1 := s6 _ _ p1
  replace p2 := s6 _ _ p2
  replace p3 := s6 _ _ p3
  refine ⟨_, rfl, s, 3, rfl, D6, by decide, by decide, fun x H7 x0 x1 D7 o7 => ?_⟩
  have ts7 := D6.ts o7
  have hn7 := off_at o7 hn6 nn
  obtain ⟨t, r, d, ha, ht, rd⟩ : ∃ (t : Addr) (r d : Int), atI [V.ref t1, V.ref t2, V.ref t3] x = some (.ref t) ∧ H7 t = some (.tup [.int r, .int d]) ∧ ((r = 12 ∧ d = 6) ∨ (r = 30 ∧ d = 10)) := by
    have x3 : x = 0 ∨ x = 1 ∨ x = 2 := by omega
    rcases x3 with rfl | rfl | rfl
    · exact ⟨t1, 12, 6, rfl, ts7 _ _ p1, .inl ⟨rfl, rfl⟩⟩
    · exact ⟨t2, 12, 6, rfl, ts7 _ _ p2, .inl ⟨rfl, rfl⟩⟩
    · exact ⟨t3, 30, 10, rfl, ts7 _ _ p3, .inr ⟨rfl, rfl⟩⟩
  refine ⟨lz, _, _, .ref t, rfl, rfl, SqL.of (off_at o7 h6 nz), ha, ?_⟩
  clear p1 p2 p3 ts7 h6 s6 s5 o7 ha
  refine ⟨_, rfl, _, rfl, _, rfl, _, rfl, t, _, _, .int r, rfl, rfl, SqT.of ht, at0, s, r, rfl, D7, by omega, by omega, fun y H8 y0 y1 D8 o8 => ⟨_, _, rfl, rfl, ?_⟩⟩
  have ht8 := (D7.ts o8) _ _ ht
  refine ⟨_, rfl, t, _, _, .int d, rfl, rfl, SqT.of ht8, rfl, s, nl, zs, 1 + y, d, rfl, D8, off_at o8 hn7 nn, nn, zl, zok, by omega, by omega, by omega, by rcases rd with ⟨_, e⟩ | ⟨_, e⟩ <;> (rw [e]; decide), fun T p H9 ok ph dp npT D9 o9 => ?_⟩
  have ht9 := (D8.ts o9) _ _ ht8
  have ln := shw_np ok
  have lnT : (shw T).length ≤ 385 := by omega
  refine ⟨_, rfl, p, T, rfl, ph, ok, dp, by omega, ?_⟩
  have it : isT (mkS (shw T)) T := ⟨ok, rfl⟩
  have zlen : (mkS (shw T)).length ≤ 385 := lnT
  have cT := cnt_len ok
  have sz : sL (mkS (shw T)) = shw T := rfl
  rw [← sz] at cT
  generalize hz0 : mkS (shw T) = z at it zlen cT ⊢
  have hz : z.length ≤ sizeLine := Nat.le_of_lt (big4 (by omega))
  have cz : 6 * cnt (sL z) + 1 ≤ z.length := cT
  clear cT sz ht8 D8 o9 o8 ln
  -- told and read again
  refine ⟨fun b G => b = false ∧ Same H9 G, ?_, ?_⟩
  · refine ⟨_, rfl, z, rfl, by omega, fun T2 p2 q G1 it2 g1 ph2 h2 => ?_, fun nt => absurd it (nt T)⟩
    obtain rfl := isT_inj it it2
    refine ⟨_, rfl, by show 2 ≤ sizeLine; decide, fun r hr2 => ?_⟩
    have s3 := same_new hr2 (.tup [.str "term", .ref p])
    refine ⟨.ref q, .ref r, rfl, al_term dp (ph2.ts (.of s3)) (ph.ts (.of (g1.trans s3))) (s3 _ _ h2) upd_same, fun G2 g2 => ⟨_, rfl, iteN (by decide) ?_⟩⟩
    refine ⟨_, rfl, z, rfl, by omega, fun T3 p3 G3 it3 g3 ph3 => ?_, fun nt => absurd it (nt _)⟩
    obtain rfl := isT_inj it it3
    refine ⟨p3, _, rfl, ph3, ok, by omega, fun G4 g4 => ⟨_, rfl, rfl, _, rfl, ?_, g1.trans (s3.trans (g2.trans (g3.trans g4)))⟩⟩
    rw [hz0]
    simp
  rintro b G ⟨rfl, g9⟩
  refine iteN (by decide) ?_
  replace ph := ph.ts (.of g9)
  replace ht9 := g9 _ _ ht9
  have D10 := D9.same g9
  clear D9 g9
  refine ⟨fun b G2 => b = false ∧ Same G G2, ?_, ?_⟩
  · refine ⟨_, rfl, t, _, _, .int r, rfl, rfl, SqT.of ht9, at0, rfl, _, rfl, ?_⟩
    by_cases cr : V.int r = .int 12
    · refine iteP (decide_eq_true cr) ⟨_, rfl, p, T, rfl, ph, ok, by omega, fun G4 g4 => ⟨_, rfl, rfl, _, rfl, ?_, g4⟩⟩
      rw [hz0]
      simp
    · exact iteN (fun q => cr (of_decide_eq_true q)) ⟨rfl, Same.refl _⟩
  rintro b G2 ⟨rfl, g2⟩
  refine iteN (by decide) ?_
  replace ph := ph.ts (.of g2)
  have D11 := D10.same g2
  clear D10 g2 ht9
  -- six times
  refine ⟨6, rfl, by decide, by decide, for_rangeA (n := 6) (fun i σ G => (∃ v6 v7 v8 v9, σ = [some (.ref a), some (.ref s), some (.ref nl), some (.ref t), some (.ref p), some (.str z), v6, v7, v8, v9]) ∧ Dw G s ∧ PH G T p) ⟨⟨_, _, _, _, rfl⟩, D11, ph⟩ ?_ ?_⟩
  · rintro D' i σ G hi ⟨⟨v6, v7, v8, v9, rfl⟩, D12, ph2⟩
    refine ⟨_, rfl, _, rfl, s, 3, rfl, D12, by decide, by decide, fun x G3 x0 x1 D13 o13 => ⟨_, _, rfl, rfl, 1 + x, rfl, by omega, by omega, ?_⟩⟩
    have ph3 := ph2.ts (D12.ts o13)
    refine for_rangeA (n := (1 + x).toNat) (fun j σ G => (∃ v8 w, σ = [some (.ref a), some (.ref s), some (.ref nl), some (.ref t), some (.ref p), some (.str z), some (.int (0 + (i : Int))), some (.str w), v8, v9] ∧ w.length + 20 ≤ 420 * 2 ^ j) ∧ Dw G s ∧ PH G T p) ⟨⟨_, z, rfl, by omega⟩, D13, ph3⟩ ?_ ?_
    · rintro D'' j σ G hj ⟨⟨v8, w, rfl, wl⟩, D14, ph4⟩
      have j2 : 2 ^ j ≤ 2 ^ 3 := Nat.pow_le_pow_right (by decide) (by omega)
      refine ⟨_, rfl, _, rfl, s, w, rfl, D14, by omega, fun w2 G4 wl2 D15 o15 => ⟨⟨_, w2, rfl, ?_⟩, D15, ph4.ts (D14.ts o15)⟩⟩
      rw [Nat.pow_succ]
      omega
    · rintro σ G ⟨⟨v8, w, rfl, wl⟩, D14, ph4⟩
      have j2 : 2 ^ (1 + x).toNat ≤ 2 ^ 3 := Nat.pow_le_pow_right (by decide) (by omega)
      have w5 : w.length ≤ 5000 := by omega
      refine ⟨fun b G2 => b = false ∧ Same G G2, ?_, ?_⟩
      · refine ⟨_, rfl, rfl, w, "(", rfl, rfl, _, _, rfl, rfl, _, rfl, ?_⟩
        have e40 : ("(" : Str) = ⟨#[40]⟩ := by decide +kernel
        have kd : Builtin.Str.strKind (⟨#[40]⟩ : Str) ≤ Builtin.Str.strKind w := by
          have e : Builtin.Str.strKind (⟨#[40]⟩ : Str) = 1 := by decide +kernel
          rw [e]
          unfold Builtin.Str.strKind
          split
          · exact Nat.le_refl _
          · split
            · decide
            · decide
        have cg := count_ge w 40 kd
        rw [← e40] at cg
        by_cases cc : Txt.count w "(" < 11
        · refine iteP (decide_eq_true cc) ⟨_, rfl, w, rfl, by omega, by show (sL w).count 40 < 11; omega, fun G5 g5 => ⟨_, rfl, rfl, g5⟩⟩
        · exact iteN (fun q => cc (of_decide_eq_true q)) ⟨rfl, Same.refl _⟩
      rintro b G4 ⟨rfl, g4⟩
      exact iteN (by decide) ⟨⟨_, _, _, _, rfl⟩, D14.same g4, ph4.ts (.of g4)⟩
  rintro σ G ⟨⟨v6, v7, v8, v9, rfl⟩, D12, ph2⟩
  -- a sign left out
  refine ⟨fun σ G => (∃ v6 v7 v8 v9, σ = [some (.ref a), some (.ref s), some (.ref nl), some (.ref t), some (.ref p), some (.str z), v6, v7, v8, v9]) ∧ PH G T p, ?_, ?_⟩
  · refine ⟨_, rfl, _, rfl, hz, _, _, rfl, rfl, _, rfl, ?_⟩
    by_cases c40 : z.length < 40
    · refine iteP (decide_eq_true (by omega)) ?_
      refine ⟨_, rfl, _, rfl, hz, _, rfl, by omega, by omega, for_rangeA (n := z.length) (fun i σ G => (∃ v6 v7 v8 v9, σ = [some (.ref a), some (.ref s), some (.ref nl), some (.ref t), some (.ref p), some (.str z), v6, v7, v8, v9]) ∧ PH G T p) ⟨⟨_, _, _, _, rfl⟩, ph2⟩ ?_ ?_⟩
      · rintro D' i σ G hi ⟨⟨v6, v7, v8, v9, rfl⟩, ph3⟩
        have q1 := Txt.slice_le z none (some (0 + (i : Int)))
        have q2 := Txt.slice_le z (some (0 + (i : Int) + 1)) none
        have cc : cnt (sL (Txt.slice z none (some (0 + (i : Int))) ++ Txt.slice z (some (0 + (i : Int) + 1)) none)) ≤ cnt (sL z) := by
          rw [sL_app, show (0 + (i : Int)) = ((i : Nat) : Int) by omega, show ((i : Nat) : Int) + 1 = ((i + 1 : Nat) : Int) by omega, slice_to, slice_from]
          exact cnt_less _ _
        refine ⟨_, rfl, _, rfl, _, rfl, z, rfl, hz, _, rfl, _, rfl, _, _, rfl, rfl, _, rfl, z, rfl, hz, _, _, rfl, rfl, Nat.le_of_lt (big4 (by omega)), ?_⟩
        refine ⟨_, rfl, by rw [strLen_append]; omega, by omega, fun G4 g4 => ⟨_, rfl, iteN (by decide) ?_⟩⟩
        exact ⟨⟨_, _, _, _, rfl⟩, ph3.ts (.of g4)⟩
      · rintro σ G ⟨⟨v6, v7, v8, v9, rfl⟩, ph3⟩
        exact ⟨⟨_, _, _, _, rfl⟩, ph3⟩
    · exact iteN (fun q => c40 (by have := of_decide_eq_true q; omega)) ⟨⟨_, _, _, _, rfl⟩, ph2⟩
  rintro σ G ⟨⟨v6, v7, v8, v9, rfl⟩, ph3⟩
  refine ⟨"", rfl, by decide, by decide +kernel, fun G1 g1 => ⟨_, rfl, iteP rfl ?_⟩⟩
  refine ⟨_, rfl, z, rfl, by omega, fun T2 p2 q G2 it2 g2 ph4 h2 => ?_, fun nt => absurd it (nt T)⟩
  obtain rfl := isT_inj it it2
  refine ⟨_, rfl, by show 2 ≤ sizeLine; decide, fun r hr2 => ?_⟩
  have s3 := same_new hr2 (.tup [.str "term", .ref p])
  exact ⟨.ref q, .ref r, rfl, al_term dp (ph4.ts (.of s3)) (ph3.ts (.of (g1.trans (g2.trans s3)))) (s3 _ _ h2) upd_same, fun G3 g3 => k _⟩
end
end Mine
namespace L2
open PySem PySem.Spec PyProof.Rows
/-! ### how arguments bind, by their number -/
theorem len_cons {α : Type} {n : Nat} {us : List α} (h : us.length = n + 1) : ∃ u r, us = u :: r ∧ r.length = n := by
  cases us with
  | nil => cases h
  | cons u r => exact ⟨u, r, rfl, Nat.succ.inj h⟩
section
variable {K : PySem.W.Frag} {x qual : Str} {st : Stmt} {f : Addr} {fd : FuncData} {p1 p2 p3 p4 p5 : Str}
theorem Fun.b1 (F : Fun K x qual st f fd) (h : ∀ (kV doc pm : Value) (an : Option Addr) (cdv ct u1 : Value), bindArgs (PySem.W.fnOf x qual (defArgs st) (defBody st) (defScope st) .none kV doc pm an cdv ct) ⟨[u1], []⟩ = pure [(p1, u1)]) : Binds K fd [p1] [] := by
  refine F.binds fun kV doc pm an cdv ct us h0 => ?_
  obtain ⟨u1, r1, rfl, h1⟩ := len_cons (n := 0) h0
  cases List.length_eq_zero_iff.mp h1
  exact h kV doc pm an cdv ct u1
theorem Fun.b2 (F : Fun K x qual st f fd) (h : ∀ (kV doc pm : Value) (an : Option Addr) (cdv ct u1 u2 : Value), bindArgs (PySem.W.fnOf x qual (defArgs st) (defBody st) (defScope st) .none kV doc pm an cdv ct) ⟨[u1, u2], []⟩ = pure [(p1, u1), (p2, u2)]) : Binds K fd [p1, p2] [] := by
  refine F.binds fun kV doc pm an cdv ct us h0 => ?_
  obtain ⟨u1, r1, rfl, h1⟩ := len_cons (n := 1) h0
  obtain ⟨u2, r2, rfl, h2⟩ := len_cons (n := 0) h1
  cases List.length_eq_zero_iff.mp h2
  exact h kV doc pm an cdv ct u1 u2
theorem Fun.b3 (F : Fun K x qual st f fd) (h : ∀ (kV doc pm : Value) (an : Option Addr) (cdv ct u1 u2 u3 : Value), bindArgs (PySem.W.fnOf x qual (defArgs st) (defBody st) (defScope st) .none kV doc pm an cdv ct) ⟨[u1, u2, u3], []⟩ = pure [(p1, u1), (p2, u2), (p3, u3)]) : Binds K fd [p1, p2, p3] [] := by
  refine F.binds fun kV doc pm an cdv ct us h0 => ?_
  obtain ⟨u1, r1, rfl, h1⟩ := len_cons (n := 2) h0
  obtain ⟨u2, r2, rfl, h2⟩ := len_cons (n := 1) h1
  obtain ⟨u3, r3, rfl, h3⟩ := len_cons (n := 0) h2
  cases List.length_eq_zero_iff.mp h3
  exact h kV doc pm an cdv ct u1 u2 u3
theorem Fun.b4 (F : Fun K x qual st f fd) (h : ∀ (kV doc pm : Value) (an : Option Addr) (cdv ct u1 u2 u3 u4 : Value), bindArgs (PySem.W.fnOf x qual (defArgs st) (defBody st) (defScope st) .none kV doc pm an cdv ct) ⟨[u1, u2, u3, u4], []⟩ = pure [(p1, u1), (p2, u2), (p3, u3), (p4, u4)]) : Binds K fd [p1, p2, p3, p4] [] := by
  refine F.binds fun kV doc pm an cdv ct us h0 => ?_
  obtain ⟨u1, r1, rfl, h1⟩ := len_cons (n := 3) h0
  obtain ⟨u2, r2, rfl, h2⟩ := len_cons (n := 2) h1
  obtain ⟨u3, r3, rfl, h3⟩ := len_cons (n := 1) h2
  obtain ⟨u4, r4, rfl, h4⟩ := len_cons (n := 0) h3
  cases List.length_eq_zero_iff.mp h4
  exact h kV doc pm an cdv ct u1 u2 u3 u4
theorem Fun.b5 (F : Fun K x qual st f fd) (h : ∀ (kV doc pm : Value) (an : Option Addr) (cdv ct u1 u2 u3 u4 u5 : Value), bindArgs (PySem.W.fnOf x qual (defArgs st) (defBody st) (defScope st) .none kV doc pm an cdv ct) ⟨[u1, u2, u3, u4, u5], []⟩ = pure [(p1, u1), (p2, u2), (p3, u3), (p4, u4), (p5, u5)]) : Binds K fd [p1, p2, p3, p4, p5] [] := by
  refine F.binds fun kV doc pm an cdv ct us h0 => ?_
  obtain ⟨u1, r1, rfl, h1⟩ := len_cons (n := 4) h0
  obtain ⟨u2, r2, rfl, h2⟩ := len_cons (n := 3) h1
  obtain ⟨u3, r3, rfl, h3⟩ := len_cons (n := 2) h2
  obtain ⟨u4, r4, rfl, h4⟩ := len_cons (n := 1) h3
  obtain ⟨u5, r5, rfl, h5⟩ := len_cons (n := 0) h4
  cases List.length_eq_zero_iff.mp h5
  exact h kV doc pm an cdv ct u1 u2 u3 u4 u5
end
end L2
namespace Mine
open PySem L2
theorem fn_no {P : Program} {w : World} {K : PySem.W.Frag} {mg : Str → Option Value} {base : Heap} {CX : CXT} {k : Nat} {f : Addr} {fd : FuncData} {ps : List Str} : FnOk P w K mg base CX k f fd ps (fun _ _ _ _ => False) :=
  ⟨fun _ _ _ _ h => h.elim, fun _ _ _ _ _ _ _ _ _ _ _ _ _ h => h.elim⟩
theorem all_mk {l : PySem.W.OpenLaw} {w : World} {K : PySem.W.Frag} {h : Heap} {mg : Str → Option Value} {fa f1 f2 f3 f4 f5 f6 f7 f8 f9 f10 f11 f12 f13 f14 f15 f16 f17 f18 f19 f20 f21 : Addr} (X : K.In h) (G : h.Ns mainGlobals mg) (hfa : mg "law" = some (.ref fa))
    {od1 an1 od2 an2 od3 an3 od4 an4 od5 an5 od6 an6 od7 an7 od8 an8 od9 an9 od10 an10 od11 an11 od12 an12 od13 an13 od14 an14 od15 an15 od16 an16 od17 an17 od18 an18 od19 an19 od20 an20 od21 an21 : Option Addr} {sl1 sl2 sl3 sl4 sl5 sl6 sl7 sl8 sl9 sl10 sl11 sl12 sl13 sl14 sl15 sl16 sl17 sl18 sl19 sl20 sl21 : Array (Option Value)} {oc1 kV1 dc1 pm1 cd1 ct1 oc2 kV2 dc2 pm2 cd2 ct2 oc3 kV3 dc3 pm3 cd3 ct3 oc4 kV4 dc4 pm4 cd4 ct4 oc5 kV5 dc5 pm5 cd5 ct5 oc6 kV6 dc6 pm6 cd6 ct6 oc7 kV7 dc7 pm7 cd7 ct7 oc8 kV8 dc8 pm8 cd8 ct8 oc9 kV9 dc9 pm9 cd9 ct9 oc10 kV10 dc10 pm10 cd10 ct10 oc11 kV11 dc11 pm11 cd11 ct11 oc12 kV12 dc12 pm12 cd12 ct12 oc13 kV13 dc13 pm13 cd13 ct13 oc14 kV14 dc14 pm14 cd14 ct14 oc15 kV15 dc15 pm15 cd15 ct15 oc16 kV16 dc16 pm16 cd16 ct16 oc17 kV17 dc17 pm17 cd17 ct17 oc18 kV18 dc18 pm18 cd18 ct18 oc19 kV19 dc19 pm19 cd19 ct19 oc20 kV20 dc20 pm20 cd20 ct20 oc21 kV21 dc21 pm21 cd21 ct21 : Value}
    {xcS xcW : Addr} {odS odW : Option Addr} {itsS itsW : Array Value} {nS nW : Nat} {slS slW : Array (Option Value)} {tL tN tF : Tok} {xcD xND xc1 xN1 : Addr} {xc2 xc3 xc4 xc5 xc6 xc7 : Addr} {oc_2 oc_3 oc_4 oc_5 oc_6 oc_7 : Value} {oo_2 oo_3 oo_4 oo_5 oo_6 oo_7 : Option Addr} {cd_2 cd_3 cd_4 cd_5 cd_6 cd_7 : ClassData} {ol_2 ol_3 ol_4 ol_5 ol_6 ol_7 : Array (Option Value)} {nmD qnD nm1 qn1 : Str} {bsD subD bs1 sub1 : List Value} {snD sn1 : List Str} {abD ab1 : Bool} {colD col1 : Option Bool} {ddD dd1 : Option Addr} {kaD kbD kcD kdD keD ka1 kb1 kc1 kd1 ke1 : Option Value} {oeD oe1 : Option Addr} {ooD oo1 : Value} {esD es1 : Array DictEntry} {enD en1 : Nat} {xlD xl1 : Array (Option Value)} {iI : Addr} {ioI iaI : Option Addr} {isI : Array (Option Value)} {ikI idI ipI icI itI : Value} 
    (a1 : PySem.W.nsIn K mainGlobals "is_name" = some (some (.ref f1))) (l1 : K.lookup f1 = some ⟨oc1, od1, .func (PySem.W.fnOf "is_name" "is_name" (defArgs sIsN) (defBody sIsN) (defScope sIsN) .none kV1 dc1 pm1 an1 cd1 ct1), sl1⟩) (c1 : PySem.W.codeIn K cd1 "is_name" = true) (k1 : PySem.W.keepIn K (.ref f1) = true)
    (a2 : PySem.W.nsIn K mainGlobals "read_number" = some (some (.ref f2))) (l2 : K.lookup f2 = some ⟨oc2, od2, .func (PySem.W.fnOf "read_number" "read_number" (defArgs sRdN) (defBody sRdN) (defScope sRdN) .none kV2 dc2 pm2 an2 cd2 ct2), sl2⟩) (c2 : PySem.W.codeIn K cd2 "read_number" = true) (k2 : PySem.W.keepIn K (.ref f2) = true)
    (a3 : PySem.W.nsIn K mainGlobals "read_leaf" = some (some (.ref f3))) (l3 : K.lookup f3 = some ⟨oc3, od3, .func (PySem.W.fnOf "read_leaf" "read_leaf" (defArgs sRdL) (defBody sRdL) (defScope sRdL) .none kV3 dc3 pm3 an3 cd3 ct3), sl3⟩) (c3 : PySem.W.codeIn K cd3 "read_leaf" = true) (k3 : PySem.W.keepIn K (.ref f3) = true)
    (a4 : PySem.W.nsIn K mainGlobals "close_bracket" = some (some (.ref f4))) (l4 : K.lookup f4 = some ⟨oc4, od4, .func (PySem.W.fnOf "close_bracket" "close_bracket" (defArgs sCls) (defBody sCls) (defScope sCls) .none kV4 dc4 pm4 an4 cd4 ct4), sl4⟩) (c4 : PySem.W.codeIn K cd4 "close_bracket" = true) (k4 : PySem.W.keepIn K (.ref f4) = true)
    (a5 : PySem.W.nsIn K mainGlobals "take_leaf" = some (some (.ref f5))) (l5 : K.lookup f5 = some ⟨oc5, od5, .func (PySem.W.fnOf "take_leaf" "take_leaf" (defArgs sTkl) (defBody sTkl) (defScope sTkl) .none kV5 dc5 pm5 an5 cd5 ct5), sl5⟩) (c5 : PySem.W.codeIn K cd5 "take_leaf" = true) (k5 : PySem.W.keepIn K (.ref f5) = true)
    (a6 : PySem.W.nsIn K mainGlobals "term_of" = some (some (.ref f6))) (l6 : K.lookup f6 = some ⟨oc6, od6, .func (PySem.W.fnOf "term_of" "term_of" (defArgs sTrO) (defBody sTrO) (defScope sTrO) .none kV6 dc6 pm6 an6 cd6 ct6), sl6⟩) (c6 : PySem.W.codeIn K cd6 "term_of" = true) (k6 : PySem.W.keepIn K (.ref f6) = true)
    (a7 : PySem.W.nsIn K mainGlobals "read_term" = some (some (.ref f7))) (l7 : K.lookup f7 = some ⟨oc7, od7, .func (PySem.W.fnOf "read_term" "read_term" (defArgs sRdT) (defBody sRdT) (defScope sRdT) .none kV7 dc7 pm7 an7 cd7 ct7), sl7⟩) (c7 : PySem.W.codeIn K cd7 "read_term" = true) (k7 : PySem.W.keepIn K (.ref f7) = true)
    (a8 : PySem.W.nsIn K mainGlobals "show_term" = some (some (.ref f8))) (l8 : K.lookup f8 = some ⟨oc8, od8, .func (PySem.W.fnOf "show_term" "show_term" (defArgs sShw) (defBody sShw) (defScope sShw) .none kV8 dc8 pm8 an8 cd8 ct8), sl8⟩) (c8 : PySem.W.codeIn K cd8 "show_term" = true) (k8 : PySem.W.keepIn K (.ref f8) = true)
    (a9 : PySem.W.nsIn K mainGlobals "_law_draw" = some (some (.ref f9))) (l9 : K.lookup f9 = some ⟨oc9, od9, .func (PySem.W.fnOf "_law_draw" "_law_draw" (defArgs sDraw) (defBody sDraw) (defScope sDraw) .none kV9 dc9 pm9 an9 cd9 ct9), sl9⟩) (c9 : PySem.W.codeIn K cd9 "_law_draw" = true) (k9 : PySem.W.keepIn K (.ref f9) = true)
    (a10 : PySem.W.nsIn K mainGlobals "_law_name" = some (some (.ref f10))) (l10 : K.lookup f10 = some ⟨oc10, od10, .func (PySem.W.fnOf "_law_name" "_law_name" (defArgs sNam) (defBody sNam) (defScope sNam) .none kV10 dc10 pm10 an10 cd10 ct10), sl10⟩) (c10 : PySem.W.codeIn K cd10 "_law_name" = true) (k10 : PySem.W.keepIn K (.ref f10) = true)
    (a11 : PySem.W.nsIn K mainGlobals "_law_term" = some (some (.ref f11))) (l11 : K.lookup f11 = some ⟨oc11, od11, .func (PySem.W.fnOf "_law_term" "_law_term" (defArgs sTrm) (defBody sTrm) (defScope sTrm) .none kV11 dc11 pm11 an11 cd11 ct11), sl11⟩) (c11 : PySem.W.codeIn K cd11 "_law_term" = true) (k11 : PySem.W.keepIn K (.ref f11) = true)
    (a12 : PySem.W.nsIn K mainGlobals "_law_term_text" = some (some (.ref f12))) (l12 : K.lookup f12 = some ⟨oc12, od12, .func (PySem.W.fnOf "_law_term_text" "_law_term_text" (defArgs sTTx) (defBody sTTx) (defScope sTTx) .none kV12 dc12 pm12 an12 cd12 ct12), sl12⟩) (c12 : PySem.W.codeIn K cd12 "_law_term_text" = true) (k12 : PySem.W.keepIn K (.ref f12) = true)
    (a13 : PySem.W.nsIn K mainGlobals "_law_alike" = some (some (.ref f13))) (l13 : K.lookup f13 = some ⟨oc13, od13, .func (PySem.W.fnOf "_law_alike" "_law_alike" (defArgs sAlk) (defBody sAlk) (defScope sAlk) .none kV13 dc13 pm13 an13 cd13 ct13), sl13⟩) (c13 : PySem.W.codeIn K cd13 "_law_alike" = true) (k13 : PySem.W.keepIn K (.ref f13) = true)
    (a14 : PySem.W.nsIn K mainGlobals "_law_parted" = some (some (.ref f14))) (l14 : K.lookup f14 = some ⟨oc14, od14, .func (PySem.W.fnOf "_law_parted" "_law_parted" (defArgs sPrd) (defBody sPrd) (defScope sPrd) .none kV14 dc14 pm14 an14 cd14 ct14), sl14⟩) (c14 : PySem.W.codeIn K cd14 "_law_parted" = true) (k14 : PySem.W.keepIn K (.ref f14) = true)
    (a15 : PySem.W.nsIn K mainGlobals "_law_word_read" = some (some (.ref f15))) (l15 : K.lookup f15 = some ⟨oc15, od15, .func (PySem.W.fnOf "_law_word_read" "_law_word_read" (defArgs sWrR) (defBody sWrR) (defScope sWrR) .none kV15 dc15 pm15 an15 cd15 ct15), sl15⟩) (c15 : PySem.W.codeIn K cd15 "_law_word_read" = true) (k15 : PySem.W.keepIn K (.ref f15) = true)
    (a16 : PySem.W.nsIn K mainGlobals "_law_read" = some (some (.ref f16))) (l16 : K.lookup f16 = some ⟨oc16, od16, .func (PySem.W.fnOf "_law_read" "_law_read" (defArgs sRdd) (defBody sRdd) (defScope sRdd) .none kV16 dc16 pm16 an16 cd16 ct16), sl16⟩) (c16 : PySem.W.codeIn K cd16 "_law_read" = true) (k16 : PySem.W.keepIn K (.ref f16) = true)
    (a17 : PySem.W.nsIn K mainGlobals "_law_sign" = some (some (.ref f17))) (l17 : K.lookup f17 = some ⟨oc17, od17, .func (PySem.W.fnOf "_law_sign" "_law_sign" (defArgs sSgn) (defBody sSgn) (defScope sSgn) .none kV17 dc17 pm17 an17 cd17 ct17), sl17⟩) (c17 : PySem.W.codeIn K cd17 "_law_sign" = true) (k17 : PySem.W.keepIn K (.ref f17) = true)
    (a18 : PySem.W.nsIn K mainGlobals "_law_otherwise" = some (some (.ref f18))) (l18 : K.lookup f18 = some ⟨oc18, od18, .func (PySem.W.fnOf "_law_otherwise" "_law_otherwise" (defArgs sOth) (defBody sOth) (defScope sOth) .none kV18 dc18 pm18 an18 cd18 ct18), sl18⟩) (c18 : PySem.W.codeIn K cd18 "_law_otherwise" = true) (k18 : PySem.W.keepIn K (.ref f18) = true)
    (a19 : PySem.W.nsIn K mainGlobals "_law_told" = some (some (.ref f19))) (l19 : K.lookup f19 = some ⟨oc19, od19, .func (PySem.W.fnOf "_law_told" "_law_told" (defArgs sTold) (defBody sTold) (defScope sTold) .none kV19 dc19 pm19 an19 cd19 ct19), sl19⟩) (c19 : PySem.W.codeIn K cd19 "_law_told" = true) (k19 : PySem.W.keepIn K (.ref f19) = true)
    (a20 : PySem.W.nsIn K mainGlobals "_law_right" = some (some (.ref f20))) (l20 : K.lookup f20 = some ⟨oc20, od20, .func (PySem.W.fnOf "_law_right" "_law_right" (defArgs sRgt) (defBody sRgt) (defScope sRgt) .none kV20 dc20 pm20 an20 cd20 ct20), sl20⟩) (c20 : PySem.W.codeIn K cd20 "_law_right" = true) (k20 : PySem.W.keepIn K (.ref f20) = true)
    (a21 : PySem.W.nsIn K mainGlobals "law" = some (some (.ref f21))) (l21 : K.lookup f21 = some ⟨oc21, od21, .func (PySem.W.fnOf "law" "law" (defArgs sLaw) (defBody sLaw) (defScope sLaw) .none kV21 dc21 pm21 an21 cd21 ct21), sl21⟩) (c21 : PySem.W.codeIn K cd21 "law" = true) (k21 : PySem.W.keepIn K (.ref f21) = true)
    (z_all : PySem.W.nsIn K mainGlobals "all" = some none)
    (z_len : PySem.W.nsIn K mainGlobals "len" = some none)
    (z_int : PySem.W.nsIn K mainGlobals "int" = some none)
    (z_str : PySem.W.nsIn K mainGlobals "str" = some none)
    (z_range : PySem.W.nsIn K mainGlobals "range" = some none)
    (z_isinstance : PySem.W.nsIn K mainGlobals "isinstance" = some none)
    (z_tuple : PySem.W.nsIn K mainGlobals "tuple" = some none)
    (z_bool : PySem.W.nsIn K mainGlobals "bool" = some none)
    (z_zip : PySem.W.nsIn K mainGlobals "zip" = some none)
    (z_ValueError : PySem.W.nsIn K mainGlobals "ValueError" = some none)
    (z_list : PySem.W.nsIn K mainGlobals "list" = some none)
    (qS : PySem.W.nsIn K mainGlobals "SIGNS" = some (some (.ref xcS)))
    (uS : K.lookup xcS = some ⟨.type "tuple", odS, .seq itsS nS, slS⟩)
    (vS : Vals ((["+", "-", "*", "<", "="] : List Str).map V.str) itsS.toList)
    (qW : PySem.W.nsIn K mainGlobals "KEPT_WORDS" = some (some (.ref xcW)))
    (uW : K.lookup xcW = some ⟨.type "tuple", odW, .seq itsW nW, slW⟩)
    (vW : Vals (taken.map V.str) itsW.toList)
    (qL : PySem.W.nsIn K mainGlobals "LETTERS" = some (some (.str "abcdefghijklmnopqrstuvwxyz" tL)))
    (qF : PySem.W.nsIn K mainGlobals "FIGURES" = some (some (.str "0123456789" tF)))
    (qN : PySem.W.nsIn K mainGlobals "LONGEST_NAME" = some (some (.int 8 tN)))
    (qD : PySem.W.nsIn K mainGlobals "ThrowError" = some (some (.ref xcD)))
    (q1 : PySem.W.nsIn K mainGlobals "NoText" = some (some (.ref xc1)))
    (q2 : PySem.W.nsIn K mainGlobals "NoFit" = some (some (.ref xc2)))
    (q3 : PySem.W.nsIn K mainGlobals "NoPaper" = some (some (.ref xc3)))
    (q4 : PySem.W.nsIn K mainGlobals "NoProgram" = some (some (.ref xc4)))
    (q5 : PySem.W.nsIn K mainGlobals "NoRow" = some (some (.ref xc5)))
    (q6 : PySem.W.nsIn K mainGlobals "NoRows" = some (some (.ref xc6)))
    (q7 : PySem.W.nsIn K mainGlobals "TooMany" = some (some (.ref xc7)))
    (uD : K.lookup xcD = some (excClassObj nmD qnD xcD xND bsD (veB) true snD subD abD colD ddD kaD kbD kcD kdD keD "ValueError.__new__"))
    (u1 : K.lookup xc1 = some (excClassObj nm1 qn1 xc1 xN1 bs1 (.ref xcD :: veB) true sn1 sub1 ab1 col1 dd1 ka1 kb1 kc1 kd1 ke1 "ValueError.__new__"))
    (u2 : K.lookup xc2 = some ⟨oc_2, oo_2, .cls cd_2, ol_2⟩)
    (ty2 : PySem.W.typeIn K (.ref xc2) = some (.type "type"))
    (u3 : K.lookup xc3 = some ⟨oc_3, oo_3, .cls cd_3, ol_3⟩)
    (ty3 : PySem.W.typeIn K (.ref xc3) = some (.type "type"))
    (u4 : K.lookup xc4 = some ⟨oc_4, oo_4, .cls cd_4, ol_4⟩)
    (ty4 : PySem.W.typeIn K (.ref xc4) = some (.type "type"))
    (u5 : K.lookup xc5 = some ⟨oc_5, oo_5, .cls cd_5, ol_5⟩)
    (ty5 : PySem.W.typeIn K (.ref xc5) = some (.type "type"))
    (u6 : K.lookup xc6 = some ⟨oc_6, oo_6, .cls cd_6, ol_6⟩)
    (ty6 : PySem.W.typeIn K (.ref xc6) = some (.type "type"))
    (u7 : K.lookup xc7 = some ⟨oc_7, oo_7, .cls cd_7, ol_7⟩)
    (ty7 : PySem.W.typeIn K (.ref xc7) = some (.type "type"))
    (tnD : K.lookup xND = some ⟨ooD, oeD, .dict esD enD, xlD⟩)
    (ttD : (esD.toList.all fun e => match e.key with | .str _ _ => true | _ => false) = true)
    (niD : PySem.W.nsIn K xND "__init__" = some none)
    (tn1 : K.lookup xN1 = some ⟨oo1, oe1, .dict es1 en1, xl1⟩)
    (tt1 : (es1.toList.all fun e => match e.key with | .str _ _ => true | _ => false) = true)
    (ni1 : PySem.W.nsIn K xN1 "__init__" = some (some (.ref iI)))
    (sa1 : PySem.W.findIn K (.ref xc1) "__setattr__" = some (some (.builtin "object.__setattr__")))
    (ga1 : PySem.W.findIn K (.ref xc1) "__getattribute__" = some (some (.builtin "BaseException.__getattribute__")))
    (gh1 : PySem.W.findIn K (.ref xc1) "__getattr__" = some none)
    (ca1 : PySem.W.findIn K (.ref xc1) "__class__" = some (some (.builtin "object.__class__")))
    (no1 : PySem.W.findIn K (.ref xc1) "row" = some none)
    (kp1 : PySem.W.keepIn K (.ref xc1) = true)
    (beD : PySem.W.subIn K (.ref xcD) (.type "BaseException") = some true)
    (hg : PySem.W.specialIn K (.builtin "object.__class__") "__get__" = some (some (.builtin "getset_descriptor.__get__")))
    (ht : PySem.W.takesIn K (.builtin "object.__class__") = some true)
    (liI : K.lookup iI = some ⟨.type "function", ioI, .func (PySem.W.fnOf "__init__" "NoText.__init__" (defArgs sIni) (defBody sIni) (defScope sIni) .none ikI idI ipI iaI icI itI), isI⟩)
    (ciI : PySem.W.codeIn K icI "NoText.__init__" = true)
    (kiI : PySem.W.keepIn K (.ref iI) = true)
    (nr : xc1 ∉ [xc2, xc3, xc4, xc5, xc6, xc7])
    (dnot : xcD ∉ [xc2, xc3, xc4, xc5, xc6, xc7]) :
    ∃ fd : FuncData, (∀ (s : Shared) (v : Value), BindsTo s fd ⟨[v], []⟩ [("_law_script", v)]) ∧ ∀ base : Heap, K.In base → base.Ns mainGlobals mg → FnOk l.prog w K mg base CX0 16 fa fd ["_law_script"] (spLawK K) := by
  have e := hfa.symm.trans (PySem.W.mg_of X G a21)
  cases e
  have F1 := fun_mk (st := sIsN) l1 c1 k1
  have b1 := F1.b1 (p1 := "text") fun _ _ _ _ _ _ _ => rfl
  have m1 := PySem.W.mg_of X G a1
  have F2 := fun_mk (st := sRdN) l2 c2 k2
  have b2 := F2.b3 (p1 := "word") (p2 := "low") (p3 := "high") fun _ _ _ _ _ _ _ _ _ => rfl
  have m2 := PySem.W.mg_of X G a2
  have F3 := fun_mk (st := sRdL) l3 c3 k3
  have b3 := F3.b1 (p1 := "word") fun _ _ _ _ _ _ _ => rfl
  have m3 := PySem.W.mg_of X G a3
  have F4 := fun_mk (st := sCls) l4 c4 k4
  have b4 := F4.b1 (p1 := "levels") fun _ _ _ _ _ _ _ => rfl
  have m4 := PySem.W.mg_of X G a4
  have F5 := fun_mk (st := sTkl) l5 c5 k5
  have b5 := F5.b2 (p1 := "levels") (p2 := "word") fun _ _ _ _ _ _ _ _ => rfl
  have m5 := PySem.W.mg_of X G a5
  have F6 := fun_mk (st := sTrO) l6 c6 k6
  have b6 := F6.b1 (p1 := "words") fun _ _ _ _ _ _ _ => rfl
  have m6 := PySem.W.mg_of X G a6
  have F7 := fun_mk (st := sRdT) l7 c7 k7
  have b7 := F7.b1 (p1 := "text") fun _ _ _ _ _ _ _ => rfl
  have m7 := PySem.W.mg_of X G a7
  have F8 := fun_mk (st := sShw) l8 c8 k8
  have b8 := F8.b1 (p1 := "term") fun _ _ _ _ _ _ _ => rfl
  have m8 := PySem.W.mg_of X G a8
  have F9 := fun_mk (st := sDraw) l9 c9 k9
  have b9 := F9.b2 (p1 := "_law_state") (p2 := "_law_many") fun _ _ _ _ _ _ _ _ => rfl
  have m9 := PySem.W.mg_of X G a9
  have F10 := fun_mk (st := sNam) l10 c10 k10
  have b10 := F10.b1 (p1 := "_law_state") fun _ _ _ _ _ _ _ => rfl
  have m10 := PySem.W.mg_of X G a10
  have F11 := fun_mk (st := sTrm) l11 c11 k11
  have b11 := F11.b4 (p1 := "_law_state") (p2 := "_law_names") (p3 := "_law_room") (p4 := "_law_deep") fun _ _ _ _ _ _ _ _ _ _ => rfl
  have m11 := PySem.W.mg_of X G a11
  have F12 := fun_mk (st := sTTx) l12 c12 k12
  have b12 := F12.b1 (p1 := "_law_term_here") fun _ _ _ _ _ _ _ => rfl
  have m12 := PySem.W.mg_of X G a12
  have F13 := fun_mk (st := sAlk) l13 c13 k13
  have b13 := F13.b2 (p1 := "_law_found") (p2 := "_law_due") fun _ _ _ _ _ _ _ _ => rfl
  have m13 := PySem.W.mg_of X G a13
  have F14 := fun_mk (st := sPrd) l14 c14 k14
  have b14 := F14.b1 (p1 := "_law_text") fun _ _ _ _ _ _ _ => rfl
  have m14 := PySem.W.mg_of X G a14
  have F15 := fun_mk (st := sWrR) l15 c15 k15
  have b15 := F15.b1 (p1 := "_law_word") fun _ _ _ _ _ _ _ => rfl
  have m15 := PySem.W.mg_of X G a15
  have F16 := fun_mk (st := sRdd) l16 c16 k16
  have b16 := F16.b1 (p1 := "_law_text") fun _ _ _ _ _ _ _ => rfl
  have m16 := PySem.W.mg_of X G a16
  have F17 := fun_mk (st := sSgn) l17 c17 k17
  have b17 := F17.b1 (p1 := "_law_state") fun _ _ _ _ _ _ _ => rfl
  have m17 := PySem.W.mg_of X G a17
  have F18 := fun_mk (st := sOth) l18 c18 k18
  have b18 := F18.b2 (p1 := "_law_state") (p2 := "_law_text") fun _ _ _ _ _ _ _ _ => rfl
  have m18 := PySem.W.mg_of X G a18
  have F19 := fun_mk (st := sTold) l19 c19 k19
  have b19 := F19.b1 (p1 := "_law_text") fun _ _ _ _ _ _ _ => rfl
  have m19 := PySem.W.mg_of X G a19
  have F20 := fun_mk (st := sRgt) l20 c20 k20
  have b20 := F20.b1 (p1 := "_law_text") fun _ _ _ _ _ _ _ => rfl
  have m20 := PySem.W.mg_of X G a20
  have F21 := fun_mk (st := sLaw) l21 c21 k21
  have y_all := PySem.W.mg_none_of X G z_all
  have y_len := PySem.W.mg_none_of X G z_len
  have y_int := PySem.W.mg_none_of X G z_int
  have y_str := PySem.W.mg_none_of X G z_str
  have y_range := PySem.W.mg_none_of X G z_range
  have y_isinstance := PySem.W.mg_none_of X G z_isinstance
  have y_tuple := PySem.W.mg_none_of X G z_tuple
  have y_bool := PySem.W.mg_none_of X G z_bool
  have y_zip := PySem.W.mg_none_of X G z_zip
  have y_ValueError := PySem.W.mg_none_of X G z_ValueError
  have y_list := PySem.W.mg_none_of X G z_list
  refine ⟨PySem.W.fnOf "law" "law" (defArgs sLaw) (defBody sLaw) (defScope sLaw) .none kV21 dc21 pm21 an21 cd21 ct21, fun s v => .of_eq rfl, fun base _ _ => ?_⟩
  have mS := PySem.W.mg_of X G qS
  have zS : itsS.size ≤ sizeLine := by
    have e := vS.length
    have e2 : itsS.size = 5 := by rw [← Array.length_toList]; simpa using e.symm
    rw [e2]
    decide
  have hS : ∀ H, SqT K H xcS ((["+", "-", "*", "<", "="] : List Str).map V.str) := fun H => .inr ⟨_, itsS, nS, uS, rfl, rfl, zS, vS⟩
  have mW := PySem.W.mg_of X G qW
  have zW : itsW.size ≤ sizeLine := by
    have e := vW.length
    have e2 : itsW.size = 12 := by rw [← Array.length_toList]; simpa [taken] using e.symm
    rw [e2]
    decide
  have hW : ∀ H, SqT K H xcW (taken.map V.str) := fun H => .inr ⟨_, itsW, nW, uW, rfl, rfl, zW, vW⟩
  have mL : mg "LETTERS" = some (.str alpha tL) := PySem.W.mg_of X G qL
  have mF : mg "FIGURES" = some (.str figs tF) := PySem.W.mg_of X G qF
  have mN := PySem.W.mg_of X G qN
  have W1 := over_of u1 sa1 ga1 gh1
  have Z1 : XIs K xc1 := ⟨ca1, hg, ht⟩
  have TD : PySem.W.typeIn K (.ref xcD) = some (.type "type") := by show (K.lookup xcD).map _ = _; rw [uD]; rfl
  have CD : (PySem.W.clsIn K xcD).isSome = true := by unfold PySem.W.clsIn; rw [uD]; rfl
  have cl2 : (PySem.W.clsIn K xc2).isSome = true := by unfold PySem.W.clsIn; rw [u2]; rfl
  have cl3 : (PySem.W.clsIn K xc3).isSome = true := by unfold PySem.W.clsIn; rw [u3]; rfl
  have cl4 : (PySem.W.clsIn K xc4).isSome = true := by unfold PySem.W.clsIn; rw [u4]; rfl
  have cl5 : (PySem.W.clsIn K xc5).isSome = true := by unfold PySem.W.clsIn; rw [u5]; rfl
  have cl6 : (PySem.W.clsIn K xc6).isSome = true := by unfold PySem.W.clsIn; rw [u6]; rfl
  have cl7 : (PySem.W.clsIn K xc7).isSome = true := by unfold PySem.W.clsIn; rw [u7]; rfl
  have FM : XFam1 K xc1 [xc2, xc3, xc4, xc5, xc6, xc7] xcD := ⟨W1, Z1, (by
    intro C h
    simp only [List.mem_cons, List.not_mem_nil, or_false] at h
    rcases h with rfl | rfl | rfl | rfl | rfl | rfl
    · exact ty2
    · exact ty3
    · exact ty4
    · exact ty5
    · exact ty6
    · exact ty7
    ), (by
    intro C h
    simp only [List.mem_cons, List.not_mem_nil, or_false] at h
    rcases h with rfl | rfl | rfl | rfl | rfl | rfl
    · exact cl2
    · exact cl3
    · exact cl4
    · exact cl5
    · exact cl6
    · exact cl7
    ), nr, dnot, CD, TD⟩
  have UP : XUp K xcD := ⟨TD, CD, beD⟩
  have MK1 := mk_of u1 kp1 (text_of tn1 tt1) ni1 uD (text_of tnD ttD) niD
  have FI := fun_mk (st := sIni) liI ciI kiI
  have BI := FI.b2 (p1 := "self") (p2 := "row") fun _ _ _ _ _ _ _ _ => rfl
  have GI := ok_Ini (P := l.prog) (w := w) (mg := mg) (base := base) FI W1 no1
  have mD := PySem.W.mg_of X G qD
  have mc1 := PySem.W.mg_of X G q1
  have mc2 := PySem.W.mg_of X G q2
  have mc3 := PySem.W.mg_of X G q3
  have mc4 := PySem.W.mg_of X G q4
  have mc5 := PySem.W.mg_of X G q5
  have mc6 := PySem.W.mg_of X G q6
  have mc7 := PySem.W.mg_of X G q7
  have G1 := ok_IsN (P := l.prog) (w := w) (mg := mg) (base := base) F1 mL mN mW hW  y_all y_len
  have G2 := ok_RdN (P := l.prog) (w := w) (mg := mg) (base := base) F2 mF  y_int y_all y_len y_str
  have G3 := ok_RdL (P := l.prog) (w := w) (mg := mg) (base := base) F3  G1 b1 k1 m1 G2 b2 k2 m2 
  have G4 := ok_Cls (P := l.prog) (w := w) (mg := mg) (base := base) F4   y_len
  have G5 := ok_Tkl (P := l.prog) (w := w) (mg := mg) (base := base) F5  G3 b3 k3 m3 G4 b4 k4 m4 y_range y_len
  have G6 := ok_TrO (P := l.prog) (w := w) (mg := mg) (base := base) F6 mS hS G5 b5 k5 m5 y_len
  have G7 := ok_RdT (P := l.prog) (w := w) (mg := mg) (base := base) F7 mc1 MK1 liI rfl GI BI G6 b6 k6 m6 
  have G8 := ok_Shw (P := l.prog) (w := w) (mg := mg) (base := base) F8   y_isinstance y_str
  have G9 := ok_Draw (P := l.prog) (w := w) (mg := mg) (base := base) F9   y_len
  have G10 := ok_Nam (P := l.prog) (w := w) (mg := mg) (base := base) F10  G9 b9 k9 m9 y_range
  have GT11 : ∀ n : Nat, FnOk l.prog w K mg base CX0 (n + 1) f11 _ ["_law_state", "_law_names", "_law_room", "_law_deep"] (spTm n) := fun n => by
    induction n with
    | zero => exact fn_no
    | succ n ih => exact ok_Trm (P := l.prog) (w := w) (mg := mg) (base := base) n F11 ih b11 k11 m11 G9 b9 k9 m9 y_len
  have G11 := GT11 11
  have GT12 : ∀ n : Nat, FnOk l.prog w K mg base CX0 (n + 1) f12 _ ["_law_term_here"] (spTT n) := fun n => by
    induction n with
    | zero => exact fn_no
    | succ n ih => exact ok_TTx (P := l.prog) (w := w) (mg := mg) (base := base) n F12 ih b12 k12 m12 y_str
  have G12 := GT12 11
  have GT13 : ∀ n : Nat, FnOk l.prog w K mg base CX0 (n + 1) f13 _ ["_law_found", "_law_due"] (spAl n) := fun n => by
    induction n with
    | zero => exact fn_no
    | succ n ih => exact ok_Alk (P := l.prog) (w := w) (mg := mg) (base := base) n F13 ih b13 k13 m13 y_isinstance y_tuple y_str y_all y_int y_bool y_len y_zip
  have G13 := GT13 13
  have G14 := ok_Prd (P := l.prog) (w := w) (mg := mg) (base := base) F14   y_int
  have G15 := ok_WrR (P := l.prog) (w := w) (mg := mg) (base := base) F15   y_all y_len y_str y_int
  have GT16 : ∀ n : Nat, FnOk l.prog w K mg base CX0 (n + 1) f16 _ ["_law_text"] (spRd n) := fun n => by
    induction n with
    | zero => exact fn_no
    | succ n ih => exact ok_Rdd (P := l.prog) (w := w) (mg := mg) (base := base) n F16 G15 b15 k15 m15 ih b16 k16 m16 G14 b14 k14 m14 y_len
  have G16 := GT16 11
  have G17 := ok_Sgn (P := l.prog) (w := w) (mg := mg) (base := base) F17  G9 b9 k9 m9 y_len
  have G18 := ok_Oth (P := l.prog) (w := w) (mg := mg) (base := base) F18  G9 b9 k9 m9 G17 b17 k17 m17 y_len
  have G19 := ok_Told (P := l.prog) (w := w) (mg := mg) (base := base) F19 mD mc1 mc2 mc3 mc4 mc5 mc6 mc7 UP FM no1 G7 b7 k7 m7 y_isinstance y_int y_ValueError y_bool
  have G20 := ok_Rgt (P := l.prog) (w := w) (mg := mg) (base := base) F20  G16 b16 k16 m16 G19 b19 k19 m19 G13 b13 k13 m13 
  exact ok_Law F21 G11 b11 k11 m11 G12 b12 k12 m12 G10 b10 k10 m10 G9 b9 k9 m9 G20 b20 k20 m20 G13 b13 k13 m13 G8 b8 k8 m8 G18 b18 k18 m18 G19 b19 k19 m19 G7 b7 k7 m7 y_range y_list y_len
theorem walk {l : PySem.W.OpenLaw} {q : Program} {loose : List Str} {XP : (Str → Option Value) → Heap → Prop} {YP : World → Heap → Prop} {d : DefRec} {K : Params → PySem.W.Frag} (hn : l.most = some 63) (hdf : d.params.defaults = [])
    (hY : ∀ (w : World) (h : Heap), YP w h → (K w.params).In h)
    (F : ∀ (w : World) (mg : Str → Option Value) (fa : Addr) (h : Heap), (K w.params).In h → h.Ns mainGlobals mg → mg d.name = some (.ref fa) →
      ∃ fd : FuncData, (∀ (s : Shared) (u : Value), BindsTo s fd ⟨[u], []⟩ [("_law_script", u)]) ∧ ∀ base : Heap, (K w.params).In base → base.Ns mainGlobals mg → FnOk l.prog w (K w.params) mg base CX0 16 fa fd ["_law_script"] (spLawK (K w.params))) :
    PySem.W.WalkO q loose XP YP l.row.toRowW d [] (fun f vs => PySem.call f vs) :=
  L2.walk_of (n := 63) (k := 16) (x := "_law_script") (CX := fun _ => CX0) (sp := fun w => spLawK (K w.params)) hn (by decide) hdf ⟨rfl, by decide, by decide, rfl⟩ hY F (fun _ _ a ns hl _ hS => ⟨a, ns, rfl, hS, hl, fun _ => rfl⟩) fun _ _ _ _ _ z => z
end Mine
open PySem PySem.W PyProof.Rows
set_option maxRecDepth 100000 in
set_option maxHeartbeats 0 in
theorem PySem.Challenge.cw_pairedthrows_k14_terms_as_texts_holds : PySem.Challenge.rw_pairedthrows_k14_terms_as_texts.Holds := by
  w_on; o_law; k_head; (case hw => w_witness2)
  k_fill
  refine Mine.walk (l := PySem.Challenge.rw_pairedthrows_k14_terms_as_texts) rfl rfl (fun w h Y => PySem.W.kIn_of Y) ?F
  case F =>
    intro w mg fa h KX G hmg
    refine' Mine.all_mk KX G hmg ?a1 ?l1 ?c1 ?k1 ?a2 ?l2 ?c2 ?k2 ?a3 ?l3 ?c3 ?k3 ?a4 ?l4 ?c4 ?k4 ?a5 ?l5 ?c5 ?k5 ?a6 ?l6 ?c6 ?k6 ?a7 ?l7 ?c7 ?k7 ?a8 ?l8 ?c8 ?k8 ?a9 ?l9 ?c9 ?k9 ?a10 ?l10 ?c10 ?k10 ?a11 ?l11 ?c11 ?k11 ?a12 ?l12 ?c12 ?k12 ?a13 ?l13 ?c13 ?k13 ?a14 ?l14 ?c14 ?k14 ?a15 ?l15 ?c15 ?k15 ?a16 ?l16 ?c16 ?k16 ?a17 ?l17 ?c17 ?k17 ?a18 ?l18 ?c18 ?k18 ?a19 ?l19 ?c19 ?k19 ?a20 ?l20 ?c20 ?k20 ?a21 ?l21 ?c21 ?k21 ?z_all ?z_len ?z_int ?z_str ?z_range ?z_isinstance ?z_tuple ?z_bool ?z_zip ?z_ValueError ?z_list ?qS ?uS ?vS ?qW ?uW ?vW ?qL ?qF ?qN ?qD ?q1 ?q2 ?q3 ?q4 ?q5 ?q6 ?q7 ?uD ?u1 ?u2 ?ty2 ?u3 ?ty3 ?u4 ?ty4 ?u5 ?ty5 ?u6 ?ty6 ?u7 ?ty7 ?tnD ?ttD ?niD ?tn1 ?tt1 ?ni1 ?sa1 ?ga1 ?gh1 ?ca1 ?no1 ?kp1 ?beD ?hg ?ht ?liI ?ciI ?kiI ?nr ?dnot
    (case a1 => k_is); (case l1 => k_is); (case c1 => k_is); (case k1 => k_is); (case a2 => k_is); (case l2 => k_is)
    (case c2 => k_is); (case k2 => k_is); (case a3 => k_is); (case l3 => k_is); (case c3 => k_is); (case k3 => k_is)
    (case a4 => k_is); (case l4 => k_is); (case c4 => k_is); (case k4 => k_is); (case a5 => k_is); (case l5 => k_is)
    (case c5 => k_is); (case k5 => k_is); (case a6 => k_is); (case l6 => k_is); (case c6 => k_is); (case k6 => k_is)
    (case a7 => k_is); (case l7 => k_is); (case c7 => k_is); (case k7 => k_is); (case a8 => k_is); (case l8 => k_is)
    (case c8 => k_is); (case k8 => k_is); (case a9 => k_is); (case l9 => k_is); (case c9 => k_is); (case k9 => k_is)
    (case a10 => k_is); (case l10 => k_is); (case c10 => k_is); (case k10 => k_is); (case a11 => k_is); (case l11 => k_is)
    (case c11 => k_is); (case k11 => k_is); (case a12 => k_is); (case l12 => k_is); (case c12 => k_is); (case k12 => k_is)
    (case a13 => k_is); (case l13 => k_is); (case c13 => k_is); (case k13 => k_is); (case a14 => k_is); (case l14 => k_is)
    (case c14 => k_is); (case k14 => k_is); (case a15 => k_is); (case l15 => k_is); (case c15 => k_is); (case k15 => k_is)
    (case a16 => k_is); (case l16 => k_is); (case c16 => k_is); (case k16 => k_is); (case a17 => k_is); (case l17 => k_is)
    (case c17 => k_is); (case k17 => k_is); (case a18 => k_is); (case l18 => k_is); (case c18 => k_is); (case k18 => k_is)
    (case a19 => k_is); (case l19 => k_is); (case c19 => k_is); (case k19 => k_is); (case a20 => k_is); (case l20 => k_is)
    (case c20 => k_is); (case k20 => k_is); (case a21 => k_is); (case l21 => k_is); (case c21 => k_is); (case k21 => k_is)
    (case z_all => k_is); (case z_len => k_is); (case z_int => k_is); (case z_str => k_is); (case z_range => k_is); (case z_isinstance => k_is)
    (case z_tuple => k_is); (case z_bool => k_is); (case z_zip => k_is); (case z_ValueError => k_is); (case z_list => k_is); (case qS => k_is)
    (case uS => k_is); (case vS => exact .cons ⟨_, rfl⟩ (.cons ⟨_, rfl⟩ (.cons ⟨_, rfl⟩ (.cons ⟨_, rfl⟩ (.cons ⟨_, rfl⟩ (.nil)))))); (case qW => k_is); (case uW => k_is); (case vW => exact .cons ⟨_, rfl⟩ (.cons ⟨_, rfl⟩ (.cons ⟨_, rfl⟩ (.cons ⟨_, rfl⟩ (.cons ⟨_, rfl⟩ (.cons ⟨_, rfl⟩ (.cons ⟨_, rfl⟩ (.cons ⟨_, rfl⟩ (.cons ⟨_, rfl⟩ (.cons ⟨_, rfl⟩ (.cons ⟨_, rfl⟩ (.cons ⟨_, rfl⟩ (.nil))))))))))))); (case qL => k_is)
    (case qF => k_is); (case qN => k_is); (case qD => k_is); (case q1 => k_is); (case q2 => k_is); (case q3 => k_is)
    (case q4 => k_is); (case q5 => k_is); (case q6 => k_is); (case q7 => k_is); (case uD => k_is); (case u1 => k_is)
    (case u2 => k_is); (case ty2 => k_is); (case u3 => k_is); (case ty3 => k_is); (case u4 => k_is); (case ty4 => k_is)
    (case u5 => k_is); (case ty5 => k_is); (case u6 => k_is); (case ty6 => k_is); (case u7 => k_is); (case ty7 => k_is)
    (case tnD => k_is); (case ttD => rfl); (case niD => k_is); (case tn1 => k_is); (case tt1 => rfl); (case ni1 => k_is)
    (case sa1 => k_is); (case ga1 => k_is); (case gh1 => k_is); (case ca1 => k_is); (case no1 => k_is); (case kp1 => k_is)
    (case beD => k_is); (case hg => k_is); (case ht => k_is); (case liI => k_is); (case ciI => k_is); (case kiI => k_is)
    (case nr => decide); (case dnot => decide)
