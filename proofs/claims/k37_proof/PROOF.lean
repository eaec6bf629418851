import PyProof.Rows.All
import Wide.All
import OpenK.AllK
import Wide.FinOn
import Lean
import PyProof.EqAt
import PyProof.EqKinds
import PyProof.TupleCall
import KE.KDictOf
import PyProof.AttrMissHeap
import KE.KSortTup
import PyProof.Rows.InDataRows
import KE.KRevSl
import PyProof.Rows.SetFrom
import PyProof.Rows.SortStr
import KE.KDictLaws
import KE.KItemsList
import PySem.Challenge.RW_pairedthrows_k37_prices
set_option Elab.async false
set_option linter.all false
set_option maxRecDepth 100000
namespace L2
open PySem PySem.Spec PyProof.Rows
abbrev Key:=Sum Int Str
def kW:Key->Value->Bool
 | .inl k,v=>Value.isInt k v
 | .inr x,v=>Value.isStrOf x v
def cF3 (w:World):Key->Int
 | .inl k=>hashInt k
 | .inr x=>hashStr w x
theorem cO:∀ {k:Key}{v:Value},kW k v=true->(∃ i t,k=Sum.inl i/\v=Value.int i t)\/(∃ x t,k=Sum.inr x/\v=Value.str x t)
 | .inl i,v,h=>by
  obtain ⟨t,e⟩:=Value.isInt_shape (k:=i) (v:=v) h
  exact .inl ⟨i,t,rfl,e⟩
 | .inr x,v,h=>by
  obtain ⟨t,e⟩:=Value.isStrOf_shape (x:=x) (v:=v) h
  exact .inr ⟨x,t,rfl,e⟩
theorem aI7 (i:Int) (t:Tok):kW (.inl i) (.int i t)=true:=by simp [kW,Value.isInt]
theorem rS (x:Str) (t:Tok):kW (.inr x) (.str x t)=true:=by simp [kW,Value.isStrOf]
theorem bM0 (a b:Int):decide ((Sum.inl a:Key)=Sum.inl b)=(a == b):=by
 by_cases e:a=b
 ·subst e;simp
 ·have h:¬ (Sum.inl a:Key)=Sum.inl b:=fun q=>e (Sum.inl.inj q)
  rw [decide_eq_false h]
  exact (beq_eq_false_iff_ne.mpr e).symm
theorem bU6 (a b:Str):decide ((Sum.inr a:Key)=Sum.inr b)=decide (a=b):=by
 by_cases e:a=b
 ·subst e;simp
 ·have h:¬ (Sum.inr a:Key)=Sum.inr b:=fun q=>e (Sum.inr.inj q)
  rw [decide_eq_false h,decide_eq_false e]
theorem bU3 (a:Int) (b:Str):decide ((Sum.inl a:Key)=Sum.inr b)=false:=decide_eq_false (fun q=>nomatch q)
theorem bS4 (a:Str) (b:Int):decide ((Sum.inr a:Key)=Sum.inl b)=false:=decide_eq_false (fun q=>nomatch q)
def bH (prog:Program) (w:World):PySem.KeyKind prog w Key where
 is:=kW
 hash:=cF3 w
 inj:=fun v a b ha hb=>by
  rcases cO ha with ⟨i,t,rfl,rfl⟩ | ⟨x,t,rfl,rfl⟩
  ·rcases cO hb with ⟨j,u,rfl,e⟩ | ⟨y,u,rfl,e⟩
   ·injection e with e1 _;rw [e1]
   ·exact nomatch e
  ·rcases cO hb with ⟨j,u,rfl,e⟩ | ⟨y,u,rfl,e⟩
   ·exact nomatch e
   ·injection e with e1 _;rw [e1]
 byValue:=fun k v h=>by
  rcases cO h with ⟨i,t,rfl,rfl⟩ | ⟨x,t,rfl,rfl⟩ <;> rfl
 pyHash:=fun hv h=>by
  rcases cO hv with ⟨i,t,rfl,rfl⟩ | ⟨x,t,rfl,rfl⟩
  ·exact wpAny_pyHash_int h
  ·exact wpAny_pyHash_str h
 eqBool:=fun hu hv h=>by
  rcases cO hu with ⟨i,t,rfl,rfl⟩ | ⟨x,t,rfl,rfl⟩
  ·rcases cO hv with ⟨j,u,rfl,rfl⟩ | ⟨y,u,rfl,rfl⟩
   ·rw [bM0] at h;exact wpAny_eqBool_int h
   ·rw [bU3] at h;exact SeqAt.EqAt.int_str i t y u _ _ _ _ h
  ·rcases cO hv with ⟨j,u,rfl,rfl⟩ | ⟨y,u,rfl,rfl⟩
   ·rw [bS4] at h;exact SeqAt.EqAt.str_int x t j u _ _ _ _ h
   ·rw [bU6] at h;exact wpAny_eqBool_str h
 «strs» :=fun k x t v h=>by
  rcases cO h with ⟨i,u,rfl,e⟩ | ⟨y,u,rfl,e⟩
  ·exact nomatch e
  ·injection e with e1 _
   subst e1
   cases v <;> rfl
theorem wS (prog:Program) (w:World) (i:Int) (t:Tok):(bH prog w).is (.inl i) (.int i t)=true:=aI7 i t
theorem xG (prog:Program) (w:World) (x:Str) (t:Tok):(bH prog w).is (.inr x) (.str x t)=true:=rS x t
inductive V where
 | non | bl (b:Bool) | int (i:Int) | str (x:Str) | byt (b:Array UInt8) | flt (b:UInt64) | ref (a:Addr) | ty (n:String)
 deriving DecidableEq
def bX:V->Value->Prop
 | .non,u=>u=Value.none
 | .bl b,u=>u=Value.bool b
 | .int i,u=>∃ t,u=Value.int i t
 | .str x,u=>∃ t,u=Value.str x t
 | .byt b,u=>∃ t,u=Value.bytes b t
 | .flt b,u=>∃ t,u=Value.float b t
 | .ref a,u=>u=Value.ref a
 | .ty n,u=>u=Value.type n
abbrev bP:List V->List Value->Prop:=Paired bX
theorem bP.length {xs:List V}{us:List Value}(r:bP xs us):xs.length=us.length:=Paired.length r
theorem bP.get:∀ {xs:List V}{us:List Value}{i:Nat}{x:V},bP xs us->xs[i]?=some x->∃ u,us[i]?=some u/\bX x u
 | _,_,_,_,.nil,e=>by simp at e
 | _,_,0,_,.cons r _,e=>by simp at e;subst e;exact ⟨_,rfl,r⟩
 | _,_,i+1,x,.cons _ t,e=>by
  obtain ⟨u,h1,h2⟩:=bP.get (i:=i) (x:=x) t (by simpa using e)
  exact ⟨u,by simpa using h1,h2⟩
theorem bP.append:∀ {xs ys:List V}{us ws:List Value},bP xs us->bP ys ws->bP (xs++ys) (us++ws)
 | _,_,_,_,.nil,s=>s
 | _,_,_,_,.cons r t,s=> .cons r (bP.append t s)
theorem bP.take:∀ {xs:List V}{us:List Value}(n:Nat),bP xs us->bP (xs.take n) (us.take n)
 | _,_,0,_=> .nil
 | _,_,_+1,.nil=> .nil
 | _,_,n+1,.cons r t=> .cons r (bP.take n t)
theorem bP.drop:∀ {xs:List V}{us:List Value}(n:Nat),bP xs us->bP (xs.drop n) (us.drop n)
 | _,_,0,r=>r
 | _,_,_+1,.nil=> .nil
 | _,_,n+1,.cons _ t=>bP.drop n t
def jT:Option V->Option Value->Prop
 | some v,some u=>bX v u
 | none,none=>True
 | _,_=>False
def KV {κ: Type}:List (κ×V)->List (κ×Value)->Prop:=Paired fun (p:κ×V) (q:κ×Value)=>p.1=q.1/\bX p.2 q.2
def kV:Key->V
 | .inl i=> .int i
 | .inr x=> .str x
inductive HO where
 | lst (xs:List V)
 | tup (xs:List V)
 | dK (kvs:List (Key×V)) | dT (kvs:List (List Key×V))
 | set (S:Int->Bool) (n:Nat)
 | ins (C dx:Addr) (fs:List (Str×V))
 | own (x:Addr)
 | xd (fs:List (Str×V))
 | met (f x:Addr)
 | rng (lo hi:Int)
 | frz (o:Obj) (u:HO)
 | tbl (ps:Array Value)
 | ext (φ: Heap->Prop)
abbrev Hp:=Addr->Option HO
def aW (H:Hp) (a:Addr) (o:HO):Hp:=fun b=>if b=a then some o else H b
theorem aE {H:Hp}{a:Addr}{o:HO}:aW H a o a=some o:=by unfold aW;rw [if_pos rfl]
theorem aQ {H:Hp}{a b:Addr}{o:HO}(h:b≠a):aW H a o b=H b:=by unfold aW;rw [if_neg h]
theorem zU {H:Hp}{a:Addr}{o u:HO}:aW (aW H a o) a u=aW H a u:=by
 funext b;unfold aW;split <;> rfl
theorem fN {H:Hp}{a b:Addr}{o u:HO}(h:H a=some o) (h':H b=some u) (d:o≠u):a≠b:=by
 intro e;subst e;rw [h] at h';exact d (Option.some.inj h')
theorem aR {H:Hp}{a b:Addr}{o:HO}(h:H a=some o) (h':H b=none):a≠b:=by
 intro e;subst e;rw [h] at h';cases h'
def jY (h:Heap) (a:Addr) (its:Array Value):Prop:=∃ o,h.get? a=some o/\o.cls= .type "tuple"/\∃ n,o.data= .seq its n/\o.dict=none
theorem jY.is {h:Heap}{a:Addr}{its:Array Value}(x:jY h a its):IsTup h a its:=let ⟨o,e,c,n,d,_⟩:=x;⟨o,e,c,n,d⟩
theorem jY.new (h:Heap) (its:Array Value):jY (h.push { cls:= .type "tuple",data:= .seq its }) h.objs.size its:=⟨_,Heap.get?_push_size _ rfl,rfl,_,rfl,rfl⟩
section
variable (P:Program) (w:World)
def dL (H:Hp) (h:Heap) (a:Addr):HO->Prop
 | .lst xs=>xs.length<=sizeLine/\∃ (its:List Value) (n:Nat),bP xs its/\h.get? a=some { cls:= .type "list",data:= .seq its.toArray n }
 | .tup xs=>xs.length<=sizeLine/\∃ its:List Value,bP xs its/\jY h a its.toArray
 | .dK kvs=>kvs.length<=sizeLine/\(a == sysModules)=false/\∃ vs,KV kvs vs/\h.DictOf (bH P w) a vs
 | .dT kvs=>kvs.length<=sizeLine/\(a == sysModules)=false/\∃ xs:List (List Key×Addr×Value),
   Paired (fun (p:List Key×V) (q:List Key×Addr×Value)=>p.1=q.1/\H q.2.1=some (.tup (p.1.map kV))/\bX p.2 q.2.2) kvs xs /\
   ∃ o es ep,h.get? a=some o/\o.ExactDict/\o.data= .dict es ep/\es.toList=xs.map (entryOfKey (tupleKind (bH P w)))/\(xs.map (·.1)).Nodup
 | .set S n=>h.SetOf (intKind P w) a S n
 | .ins C dx fs=>H dx=some (.own a)/\fs.length<=1000/\dx≠a/\h.get? a=some (PySem.W.instObj C dx) /\
   ∃ mA,h.Ns1 dx mA/\(∀ f,jT (fs.lookup f) (mA f))/\PySem.Within mA (fs.map (·.1))
 | .own _=>∃ o,h.get? a=some o
 | .xd fs=>∃ mA,h.Ns1 a mA/\∀ f,jT (fs.lookup f) (mA f)
 | .rng lo hi=>∃ t u v,h.get? a=some { cls:= .type "range",data:= .fields #[.int lo t,.int hi u,.int 1 v] }
 | .frz o u=>h.get? a=some o/\dL H h a u
 | .tbl ps=>h.get? a=some { cls:= .none,data:= .fields ps }
 | .met f x=>h.get? a=some (PySem.W.methodObj (.ref f) (.ref x))
 | .ext φ=>φ h/\(∃ o,h.get? a=some o)/\∀ h1 h2:Heap,φ h1->(∀ o,h1.get? a=some o->h2.get? a=some o)->φ h2
def lK (H:Hp) (h:Heap):Prop:=∀ a o,H a=some o->dL P w H h a o
end
section
variable {P:Program}{w:World}{H H':Hp}{h h':Heap}{a:Addr}{o:HO}
theorem dL.lt (x:dL P w H h a o):a < h.objs.size:=by
 cases o with
 | lst xs=>obtain ⟨_,_,_,_,e⟩:=x;exact Heap.lt_size e
 | tup xs=>obtain ⟨_,_,_,p⟩:=x;exact p.is.lt
 | dK kvs=>obtain ⟨_,_,_,_,o,_,_,e,_⟩:=x;exact Heap.lt_size e
 | dT kvs=>obtain ⟨_,_,_,_,o,_,_,e,_⟩:=x;exact Heap.lt_size e
 | set S n=>obtain ⟨o,_,_,_,e,_⟩:=x;exact Heap.lt_size e
 | ins C dx fs=>obtain ⟨_,_,_,e,_⟩:=x;exact Heap.lt_size e
 | own y=>obtain ⟨_,e⟩:=x;exact Heap.lt_size e
 | xd fs=>obtain ⟨_,⟨_,_,_,e,_⟩,_⟩:=x;exact Heap.lt_size e
 | rng lo hi=>obtain ⟨_,_,_,e⟩:=x;exact Heap.lt_size e
 | frz ob u=>obtain ⟨e,_⟩:=x;exact Heap.lt_size e
 | tbl ps=>exact Heap.lt_size (show h.get? a=some _ from x)
 | met f y=>exact Heap.lt_size (show h.get? a=some _ from x)
 | ext φ=>obtain ⟨_,⟨_,e⟩,_⟩:=x;exact Heap.lt_size e
theorem Paired.mapP {α β: Type}{F G:α->β->Prop}:∀ {l₁:List α}{l₂:List β},Paired F l₁ l₂->(∀ a b,F a b->G a b)->Paired G l₁ l₂
 | _,_,.nil,_=> .nil
 | _,_,.cons r t,f=> .cons (f _ _ r) (Paired.mapP t f)
theorem dL.stay (x:dL P w H h a o) (k:∀ b u,(b=a\/H b=some (.own a))->h.get? b=some u->h'.get? b=some u)
  (ho:∀ b,H b=some (.own a)->H' b=some (.own a)) (ht:∀ b xs,H b=some (.tup xs)->H' b=some (.tup xs)):dL P w H' h' a o:=by
 induction o with
 | lst xs=>obtain ⟨z,its,n,r,e⟩:=x;exact ⟨z,its,n,r,k _ _ (.inl rfl) e⟩
 | tup xs=>obtain ⟨z,its,r,ob,e,c⟩:=x;exact ⟨z,its,r,ob,k _ _ (.inl rfl) e,c⟩
 | dK kvs=>obtain ⟨z,y,vs,r,ob,es,ep,e,c⟩:=x;exact ⟨z,y,vs,r,ob,es,ep,k _ _ (.inl rfl) e,c⟩
 | dT kvs =>
  obtain ⟨z,y,xs,r,ob,es,ep,e,c⟩:=x
  exact ⟨z,y,xs,Paired.mapP r fun p q z=>⟨z.1,ht _ _ z.2.1,z.2.2⟩,ob,es,ep,k _ _ (.inl rfl) e,c⟩
 | set S n=>obtain ⟨ob,es,ep,t,e,c⟩:=x;exact ⟨ob,es,ep,t,k _ _ (.inl rfl) e,c⟩
 | ins C dx fs =>
  obtain ⟨d,z,ne,e,mA,⟨od,es,ep,e2,c⟩,r⟩:=x
  exact ⟨ho _ d,z,ne,k _ _ (.inl rfl) e,mA,⟨od,es,ep,k _ _ (.inr d) e2,c⟩,r⟩
 | own y=>obtain ⟨ob,e⟩:=x;exact ⟨ob,k _ _ (.inl rfl) e⟩
 | xd fs=>obtain ⟨mA,⟨od,es,ep,e,c⟩,r⟩:=x;exact ⟨mA,⟨od,es,ep,k _ _ (.inl rfl) e,c⟩,r⟩
 | rng lo hi=>obtain ⟨t,u,v,e⟩:=x;exact ⟨t,u,v,k _ _ (.inl rfl) e⟩
 | frz ob u ih=>obtain ⟨e,q⟩:=x;exact ⟨k _ _ (.inl rfl) e,ih q⟩
 | tbl ps =>
  have e:h.get? a=some { cls:= .none,data:= .fields ps }:=x
  show h'.get? a=some { cls:= .none,data:= .fields ps }
  exact k a _ (.inl rfl) e
 | met f y =>
  have e:h.get? a=some (PySem.W.methodObj (.ref f) (.ref y)):=x
  show h'.get? a=some (PySem.W.methodObj (.ref f) (.ref y))
  exact k a _ (.inl rfl) e
 | ext φ=>obtain ⟨p,⟨o,e⟩,st⟩:=x;exact ⟨st _ _ p fun o q=>k _ _ (.inl rfl) q,⟨o,k _ _ (.inl rfl) e⟩,st⟩
theorem lK.lt (x:lK P w H h) (e:H a=some o):a < h.objs.size:=(x a o e).lt
theorem lK.fresh (x:lK P w H h) (e:h.objs.size<=a):H a=none:=by
 cases q:H a with
 | none=>rfl
 | some u=>exact absurd (Nat.lt_of_lt_of_le (x.lt q) e) (Nat.lt_irrefl _)
theorem lK.kept (x:lK P w H h) (k:∀ b u,h.get? b=some u->h'.get? b=some u):lK P w H h':=fun a o e =>
 (x a o e).stay (fun b u _ q=>k b u q) (fun _ q=>q) fun _ _ q=>q
theorem lK.laid (x:lK P w H h) (k:∀ b u,h.get? b=some u->h'.get? b=some u) (hp:h.objs.size<=a) (new:dL P w (aW H a o) h' a o):lK P w (aW H a o) h':=fun b u e=>by
 have hn:=x.fresh hp
 by_cases hb:b=a
 ·subst hb;rw [aE] at e;cases e;exact new
 ·rw [aQ hb] at e
  exact (x b u e).stay (fun c v _ q=>k c v q) (fun c q=>by rw [aQ (aR q hn)];exact q) fun c xs q=>by rw [aQ (aR q hn)];exact q
end
def Rd (H:Hp) (a:Addr) (u:HO):Prop:=H a=some u\/∃ o,H a=some (.frz o u)
theorem Rd.ok {P:Program}{w:World}{H:Hp}{h:Heap}{a:Addr}{u:HO}(r:Rd H a u) (x:lK P w H h):dL P w H h a u:=by
 rcases r with r | ⟨o,r⟩
 ·exact x a u r
 ·obtain ⟨_,q⟩:=x a _ r
  exact q
def Mut:Option HO->Prop
 | some (.lst _)=>True
 | some (.dK _)=>True
 | some (.dT _)=>True
 | some (.set _ _)=>True
 | some (.ins _ _ _)=>True
 | some (.ext _)=>True
 | _=>False
section
variable {P:Program}{w:World}{H:Hp}{h h':Heap}{x e:Addr}{o':HO}
theorem lK.write (ok:lK P w H h) (mu:Mut (H x)) (he:e=x\/H e=some (.own x)) (k:∀ b u,b≠e->h.get? b=some u->h'.get? b=some u) (heo:∃ u,h'.get? e=some u)
  (new:dL P w (aW H x o') h' x o'):lK P w (aW H x o') h':=fun b u q=>by
 have nown:∀ c y,H c=some (.own y)->c≠x:=fun c y r z=>by subst z;rw [r] at mu;exact mu
 have ntup:∀ c xs,H c=some (.tup xs)->c≠x:=fun c xs r z=>by subst z;rw [r] at mu;exact mu
 by_cases hb:b=x
 ·subst hb;rw [aE] at q;cases q;exact new
 ·rw [aQ hb] at q
  by_cases hbe:b=e
  ·have q':H b=some (.own x):=by
    rcases he with z | z
    ·exact absurd (hbe.trans z) hb
    ·rw [hbe];exact z
   rw [q] at q';cases q'
   obtain ⟨v,hv⟩:=heo
   exact ⟨v,by rw [hbe];exact hv⟩
  ·refine (ok b u q).stay (fun c v hc r=>k c v ?_ r) (fun c r=>by rw [aQ (nown c b r)];exact r) fun c xs r=>by rw [aQ (ntup c xs r)];exact r
   rcases hc with rfl | hc
   ·exact hbe
   ·rintro rfl
    rcases he with z | z
    ·exact nown c b hc z
    ·rw [hc] at z;cases z;exact hb rfl
end
structure Un (fs ex:List Addr) (H H':Hp) (h h':Heap):Prop where
 keep:∀ b o,h.get? b=some o->H b=none->b∉fs->b∉ex->h'.get? b=some o
 slot:∀ b o,h.get? b=some o->H b=none->b∈fs->b∉ex->∃ sl,h'.get? b=some { o with slots:=sl }
 free:∀ b o,h.get? b=some o->H b=none->b∉ex->H' b=none
 there:∀ b o,h.get? b=some o->b∉ex->∃ o',h'.get? b=some o'
 tups:∀ b xs,H b=some (.tup xs)->H' b=some (.tup xs)
 frzs:∀ b o u,H b=some (.frz o u)->H' b=some (.frz o u)
 tbls:∀ b ps,H b=some (.tbl ps)->∃ more,H' b=some (.tbl (ps++more))
section
variable {fs fs' ex ex':List Addr}{H H1 H2:Hp}{h h1 h2 h':Heap}{a x e:Addr}{o:HO}
theorem Un.any (u:Un fs ex H H1 h h1) {b:Addr}{ob:Obj}(q:h.get? b=some ob) (n:H b=none) (hx:b∉ex):∃ sl,h1.get? b=some { ob with slots:=sl }:=by
 by_cases hb:b∈fs
 ·exact u.slot b ob q n hb hx
 ·exact ⟨ob.slots,u.keep b ob q n hb hx⟩
theorem Un.kept (k:∀ b u,h.get? b=some u->h'.get? b=some u):Un fs ex H H h h' :=
 ⟨fun b ob q _ _ _=>k b ob q,fun b ob q _ _ _=>⟨ob.slots,k b ob q⟩,fun _ _ _ n _=>n,fun b ob q _=>⟨ob,k b ob q⟩,fun _ _ q=>q,fun _ _ _ q=>q,fun _ ps q=>⟨#[],by rw [q];simp⟩⟩
theorem Un.refl:Un fs ex H H h h:=Un.kept fun _ _ q=>q
theorem Un.laid (k:∀ b u,h.get? b=some u->h'.get? b=some u) (hp:h.objs.size<=a) (hn:H a=none):Un fs ex H (aW H a o) h h' where
 keep:=fun b u q _ _ _=>k b u q
 slot:=fun b u q _ _ _=>⟨u.slots,k b u q⟩
 free:=fun b u q n _=>by rw [aQ (Nat.ne_of_lt (Nat.lt_of_lt_of_le (Heap.lt_size q) hp))];exact n
 there:=fun b u q _=>⟨u,k b u q⟩
 tups:=fun b xs q=>by rw [aQ (aR q hn)];exact q
 frzs:=fun b u xs q=>by rw [aQ (aR q hn)];exact q
 tbls:=fun b ps q=>⟨#[],by rw [aQ (aR q hn),q];simp⟩
theorem Un.write (mu:Mut (H x)) (he:e=x\/H e=some (.own x)) (k:∀ b u,b≠e->h.get? b=some u->h'.get? b=some u) (heo:∃ u,h'.get? e=some u):Un fs ex H (aW H x o) h h':=by
 have hx:∀ b,H b=none->b≠x:=fun b n z=>by subst z;rw [n] at mu;exact mu
 have hb:∀ b,H b=none->b≠e:=fun b n z=>by
  subst z
  rcases he with r | r
  ·exact hx b n r
  ·rw [n] at r;cases r
 have hm:∀ b u,H b=some u->¬ Mut (some u)->b≠x:=fun b u q nm z=>by subst z;rw [q] at mu;exact nm mu
 refine ⟨fun b u q n _ _=>k b u (hb b n) q,fun b u q n _ _=>⟨u.slots,k b u (hb b n) q⟩,fun b u q n _=>by rw [aQ (hx b n)];exact n,fun b u q _=>?_,
  fun b xs q=>by rw [aQ (hm b _ q fun z=>z)];exact q,fun b u xs q=>by rw [aQ (hm b _ q fun z=>z)];exact q,fun b ps q=>⟨#[],by rw [aQ (hm b _ q fun z=>z),q];simp⟩⟩
 by_cases hbe:b=e
 ·subst hbe;exact heo
 ·exact ⟨u,k b u hbe q⟩
end
def trk (h:Heap) (H:Hp):List Addr:=(List.range h.objs.size).filter fun a=>(H a).isSome
def uX (h:Heap) (H:Hp):Heap:=PySem.W.hideAll h (trk h H)
theorem aJ4 (h:Heap) (H:Hp):(uX h H).objs.size=h.objs.size:=PySem.W.hideAll_size _ _
theorem aU4 {h:Heap}{H:Hp}{b:Addr}{o:Obj}(e:h.get? b=some o) (n:H b=none):(uX h H).get? b=some o :=
 PySem.W.hideAll_get _ e fun hm=>by
  have q:(H b).isSome=true:=(List.mem_filter.mp hm).2
  rw [n] at q;simp at q
theorem bC9 {h:Heap}{H:Hp}{b:Addr}{o:Obj}(e:(uX h H).get? b=some o):h.get? b=some o/\H b=none:=by
 have e':h.get? b=some o:=PySem.W.of_hideAll (trk h H) e
 refine ⟨e',?_⟩
 cases q:H b with
 | none=>rfl
 | some x =>
  have hm:b∈trk h H:=List.mem_filter.mpr ⟨List.mem_range.mpr (Heap.lt_size e'),by simp [q]⟩
  have z:(uX h H).get? b=none:=PySem.W.hideAll_none (trk h H) hm
  rw [z] at e;cases e
def bD8 (g h:Heap) (L:Addr):List (Addr×Obj):=(List.range h.objs.size).filterMap fun a=>if a=L\/(g.get? a).isSome=true then none else (h.get? a).map fun o=>(a,o)
def eX (g h:Heap) (L d:Addr):List (Addr×Obj):=(bD8 g h L).filter fun p=>decide (p.1≠d)
structure Mod (K:PySem.W.Frag) (mg:Str->Option Value) (base:Heap):Prop where
 kin:K.In base
 glob:base.Ns mainGlobals mg
 blt:∃ mb,base.Ns builtinsNs mb/\∀ x:Str,x≠"__name__"->mb x=bootBuiltins x
 nolimit:base.NoLimit
structure Cx where
 prog:Program
 w:World
 K:PySem.W.Frag
 mg:Str->Option Value
 base:Heap
 A:Around
 N:List Str
 s₀:Shared
 H₀:Hp
 env:Env
 outer:List Env
 stack:List Env
 ex:List Addr
 fn:Str->Bool
 calm:Bool
 pn:List (Addr×Obj)
 xe:Value->Shared->Prop
def frs (l:List Env):List Addr:=l.filterMap (·.frame)
abbrev Cx.fs (X:Cx):List Addr:=frs X.outer
def Vis (sc:Scope) (x:Str):Prop:=sc.names.lookup x=some .local\/sc.names.lookup x=some .cell\/sc.names.lookup x=some .free
def Loc (sc:Scope) (x:Str):Prop:=sc.names.lookup x=some .local\/sc.names.lookup x=some .cell
def cH4 (env:Env) (h:Heap) (m:Str->Option Value) (x:Str) (u:Value):Prop :=
 (env.kindOf x=some .local/\m x=some u)\/((env.kindOf x=some .cell\/env.kindOf x=some .free)/\∃ c,env.cells.lookup x=some c/\h.IsCell c (some u))
structure Cx.Ok (X:Cx):Prop where
 mod:Mod X.K X.mg X.base
 kind:X.env.scope.kind= .function
 glob:X.env.globals=mainGlobals
 blt:X.env.builtins=builtinsNs
 above:X.s₀.heap.objs.size<=X.env.locals
 inj:∀ x y c,X.env.cells.lookup x=some c->X.env.cells.lookup y=some c->x=y
 has:∀ x,(X.env.kindOf x=some .cell\/X.env.kindOf x=some .free)->∃ c,X.env.cells.lookup x=some c
 cab:∀ x c,X.fn x=true->X.env.cells.lookup x=some c->X.s₀.heap.objs.size<=c
 hd:X.calm=true->X.A.handled=none
 frames:X.A.frames=some X.stack
 stk:X.stack=X.outer\/(X.stack=X.env :: X.outer/\X.env.frame=some X.env.locals)
 exf:∀ b∈X.ex,b≠X.env.locals/\∀ x c,X.env.cells.lookup x=some c->c≠b
 bs:∀ b o,X.base.get? b=some o->X.s₀.heap.get? b=some o/\X.H₀ b=none
 bsz:X.base.objs.size<=X.s₀.heap.objs.size
 noex:∀ b o,X.base.get? b=some o->b∉X.ex
 exfs:∀ b∈X.ex,b∉X.fs
 funs:X.s₀.heap.FunFrames X.base X.outer
 frf:∀ b∈X.fs,X.H₀ b=none
structure bG (X:Cx) (pins:List (Addr×Obj)) (σ: List (Option V)) (H:Hp) (s:Shared):Prop where
 ok:X.Ok
 os:s.os=X.s₀.os
 bare:AllBare s.gens
 base:Un X.fs X.ex X.H₀ H X.s₀.heap s.heap
 loc:∃ m,s.heap.Ns X.env.locals m/\∀ (i:Nat) (x:Str) (v:V),X.N[i]?=some x->σ[i]?=some (some v)->Vis X.env.scope x->∃ u,bX v u/\cH4 X.env s.heap m x u
 cell:∀ x c,X.env.cells.lookup x=some c->∃ v,s.heap.IsCell c v
 free:H X.env.locals=none
 freeC:∀ x c,X.env.cells.lookup x=some c->H c=none
 pin:∀ p∈X.pn++pins,s.heap.get? p.1=some p.2/\H p.1=none/\p.1≠X.env.locals/\p.1∉X.fs/\∀ v,p.2.data≠ .cell v
 hok:lK X.prog X.w H s.heap
 len:σ.length=X.N.length
section
variable {X:Cx}{pins:List (Addr×Obj)}{σ: List (Option V)}{H H':Hp}{s:Shared}{h':Heap}
theorem Cx.Ok.nofr (ok:X.Ok) {b:Addr}{o:Obj}(e:X.base.get? b=some o):b∉X.fs:=fun hb=>by
 have:=(ok.funs.mem hb).1
 rw [e] at this;cases this
theorem bG.bs (I:bG X pins σ H s):∀ b o,X.base.get? b=some o->s.heap.get? b=some o/\H b=none:=fun b o e =>
 ⟨I.base.keep b o (I.ok.bs b o e).1 (I.ok.bs b o e).2 (I.ok.nofr e) (I.ok.noex b o e),I.base.free b o (I.ok.bs b o e).1 (I.ok.bs b o e).2 (I.ok.noex b o e)⟩
theorem bG.bk (I:bG X pins σ H s):∀ b o,X.base.get? b=some o->s.heap.get? b=some o:=fun b o e=>(I.bs b o e).1
theorem bG.mod (I:bG X pins σ H s):Mod X.K X.mg X.base:=I.ok.mod
theorem bG.kIn (I:bG X pins σ H s):X.K.In s.heap:=I.ok.mod.kin.keeps I.bk
theorem bG.lt (I:bG X pins σ H s):X.env.locals < s.heap.objs.size:=let ⟨_,hn,_⟩:=I.loc;hn.lt
theorem bG.sz (I:bG X pins σ H s):X.s₀.heap.objs.size<=s.heap.objs.size:=Nat.le_trans I.ok.above (Nat.le_of_lt I.lt)
theorem bG.nofs (I:bG X pins σ H s) {a:Addr}(h:s.heap.objs.size<=a):a∉X.fs:=fun hb=>by
 obtain ⟨_,o,ho,_⟩:=I.ok.funs.mem hb
 exact absurd (Nat.lt_of_lt_of_le (Heap.lt_size ho) (Nat.le_trans I.sz h)) (Nat.lt_irrefl _)
theorem bG.cne (I:bG X pins σ H s):∀ x c,X.env.cells.lookup x=some c->c≠X.env.locals:=fun x c e z=>by
 obtain ⟨v,o,ho,hd⟩:=I.cell x c e
 obtain ⟨m,⟨o',es,ep,ho',hd',_⟩,_⟩:=I.loc
 rw [z,ho'] at ho;cases ho;rw [hd'] at hd;cases hd
theorem bG.funs (I:bG X pins σ H s):s.heap.FunFrames X.base X.outer:=by
 have all:∀ (l:List Env),(∀ b∈frs l,b∈X.fs)->X.s₀.heap.FunFrames X.base l->s.heap.FunFrames X.base l:=by
  intro l
  induction l with
  | nil=>intro _ _;trivial
  | cons env r ih =>
   intro hs hl
   obtain ⟨hk,⟨L,o,hf,hn,ho,hd⟩,hr⟩:=hl
   have hL:L∈X.fs:=hs L (by unfold frs;rw [List.filterMap_cons,hf];exact List.mem_cons_self)
   obtain ⟨sl,e⟩:=I.base.slot L o ho (I.ok.frf L hL) hL fun z=>I.ok.exfs L z hL
   exact ⟨hk,⟨L,_,hf,hn,e,hd⟩,ih (fun b hb=>hs b (by unfold frs;rw [List.filterMap_cons,hf];exact List.mem_cons_of_mem _ hb)) hr⟩
 exact all X.outer (fun _ hb=>hb) I.ok.funs
theorem bG.stack (I:bG X pins σ H s):s.heap.FunFrames X.base X.stack:=by
 rcases I.ok.stk with e | ⟨e,hf⟩
 ·rw [e];exact I.funs
 ·rw [e]
  obtain ⟨m,hn,_⟩:=I.loc
  refine .cons (by rw [I.ok.kind];decide) hf hn ?_ I.funs
  exact Heap.get?_none_of_le (Nat.le_trans I.ok.bsz I.ok.above)
theorem bG.stkSub (I:bG X pins σ H s):∀ b∈frs X.stack,b∈X.env.locals :: X.fs:=fun b hb=>by
 rcases I.ok.stk with e | ⟨e,hf⟩
 ·rw [e] at hb;exact List.mem_cons_of_mem _ hb
 ·rw [e] at hb
  unfold frs at hb
  rw [List.filterMap_cons,hf] at hb
  exact hb
theorem bG.stkFree (I:bG X pins σ H s):∀ b∈frs X.stack,H b=none:=fun b hb=>by
 rcases List.mem_cons.mp (I.stkSub b hb) with e | hb
 ·rw [e];exact I.free
 ·obtain ⟨_,o,ho,_⟩:=I.ok.funs.mem hb
  exact I.base.free b o ho (I.ok.frf b hb) fun z=>I.ok.exfs b z hb
theorem bG.step {g':Array GenState}{t':Nat}{d':Drawn}{ch:List Addr}(I:bG X pins σ H s)
  (hch:∀ b∈ch,(b∈X.ex\/X.s₀.heap.objs.size<=b)/\b≠X.env.locals/\(∀ x c,X.env.cells.lookup x=some c->c≠b)/\∀ p∈X.pn++pins,p.1≠b)
  (keep:∀ b o,b≠X.env.locals->b∉X.fs->b∉ch->s.heap.get? b=some o->H b=none->h'.get? b=some o)
  (slot:∀ b o,b≠X.env.locals->b∈X.fs->b∉ch->s.heap.get? b=some o->H b=none->∃ sl,h'.get? b=some { o with slots:=sl }) (free:∀ b o,b∉ch->s.heap.get? b=some o->H b=none->H' b=none)
  (there:∀ b o,b∉ch->s.heap.get? b=some o->∃ o',h'.get? b=some o')
  (tups:∀ b xs,H b=some (.tup xs)->H' b=some (.tup xs)) (frzs:∀ b o u,H b=some (.frz o u)->H' b=some (.frz o u)) (tbls:∀ b ps,H b=some (.tbl ps)->∃ more,H' b=some (.tbl (ps++more)))
  (ns:∀ m,s.heap.Ns X.env.locals m->h'.Ns X.env.locals m) (hok:lK X.prog X.w H' h') (hg:AllBare g') :
  bG X pins σ H' { s with heap:=h',gens:=g',drawn:=d',toks:=t' }:=by
 have neL:∀ b o,X.s₀.heap.get? b=some o->b≠X.env.locals:=fun b o e=>Nat.ne_of_lt (Nat.lt_of_lt_of_le (Heap.lt_size e) I.ok.above)
 have neC:∀ b o,X.s₀.heap.get? b=some o->b∉X.ex->b∉ch:=fun b o e hx hb=>by
  rcases (hch b hb).1 with z | z
  ·exact hx z
  ·exact absurd (Nat.lt_of_lt_of_le (Heap.lt_size e) z) (Nat.lt_irrefl _)
 have cellK:∀ x c,X.env.cells.lookup x=some c->∀ v,s.heap.IsCell c v->h'.IsCell c v:=fun x c e v ⟨o,ho,hd⟩=>by
  have nch:c∉ch:=fun z=>(hch c z).2.2.1 x c e rfl
  by_cases hc:c∈X.fs
  ·obtain ⟨sl,q⟩:=slot c o (I.cne x c e) hc nch ho (I.freeC x c e)
   exact ⟨_,q,hd⟩
  ·exact ⟨o,keep c o (I.cne x c e) hc nch ho (I.freeC x c e),hd⟩
 refine ⟨I.ok,I.os,hg,⟨fun b o e n hb hx=>?_,fun b o e n hb hx=>?_,fun b o e n hx=>?_,fun b o e hx=>?_,fun b xs e=>tups b xs (I.base.tups b xs e),fun b o xs e=>frzs b o xs (I.base.frzs b o xs e),fun b ps e=>?_⟩,?_,fun x c e=>?_,?_,fun x c e=>?_,fun p hp=>?_,hok,I.len⟩
 ·exact keep b o (neL b o e) hb (neC b o e hx) (I.base.keep b o e n hb hx) (I.base.free b o e n hx)
 ·obtain ⟨sl,e1⟩:=I.base.slot b o e n hb hx
  obtain ⟨sl',e2⟩:=slot b _ (neL b o e) hb (neC b o e hx) e1 (I.base.free b o e n hx)
  exact ⟨sl',e2⟩
 ·obtain ⟨o',e1⟩:=I.base.there b o e hx
  exact free b o' (neC b o e hx) e1 (I.base.free b o e n hx)
 ·obtain ⟨o',e1⟩:=I.base.there b o e hx
  exact there b o' (neC b o e hx) e1
 ·obtain ⟨m1,e1⟩:=I.base.tbls b ps e
  obtain ⟨m2,e2⟩:=tbls b _ e1
  exact ⟨m1++m2,by rw [e2,Array.append_assoc]⟩
 ·obtain ⟨m,hn,hl⟩:=I.loc
  refine ⟨m,ns m hn,fun i x v e1 e2 e3=>?_⟩
  obtain ⟨u,r,l⟩:=hl i x v e1 e2 e3
  refine ⟨u,r,?_⟩
  rcases l with l | ⟨k,c,e,z⟩
  ·exact .inl l
  ·exact .inr ⟨k,c,e,cellK x c e _ z⟩
 ·obtain ⟨v,z⟩:=I.cell x c e
  exact ⟨v,cellK x c e v z⟩
 ·obtain ⟨m,⟨o,_,_,ho,_⟩,_⟩:=I.loc
  exact free _ o (fun z=>(hch _ z).2.1 rfl) ho I.free
 ·obtain ⟨v,o,ho,hd⟩:=I.cell x c e
  exact free c o (fun z=>(hch c z).2.2.1 x c e rfl) ho (I.freeC x c e)
 ·obtain ⟨e,n,ne,nf,d⟩:=I.pin p hp
  have nch:p.1∉ch:=fun z=>(hch p.1 z).2.2.2 p hp rfl
  exact ⟨keep p.1 p.2 ne nf nch e n,free p.1 p.2 nch e n,ne,nf,d⟩
theorem bG.un {t':Nat}(I:bG X pins σ H s) (u:Un X.fs [] H H' s.heap h') (hok:lK X.prog X.w H' h'):bG X pins σ H' { s with heap:=h',toks:=t' }:=by
 obtain ⟨m,⟨o,es,ep,ho,r⟩,_⟩:=id I.loc
 obtain ⟨sl,hL⟩:=u.any ho I.free (by simp)
 exact I.step (g':=s.gens) (d':=s.drawn) (ch:=[]) (fun _ z=>nomatch z) (fun b o _ hb _ e n=>u.keep b o e n hb (by simp)) (fun b o _ hb _ e n=>u.slot b o e n hb (by simp)) (fun b o _ e n=>u.free b o e n (by simp)) (fun b o _ e=>u.there b o e (by simp)) u.tups u.frzs u.tbls (fun m' hm=>by
  obtain ⟨o',es',ep',ho',r'⟩:=hm
  rw [ho] at ho';cases ho'
  exact ⟨_,es',ep',hL,r'⟩) hok I.bare
theorem bG.call {g':Array GenState}{t':Nat}{d':Drawn}{ch:List Addr}(I:bG X pins σ H s) (u:Un (frs X.stack) ch H H' s.heap h') (hok:lK X.prog X.w H' h') (hg:AllBare g')
  (hch:∀ b∈ch,(b∈X.ex\/X.s₀.heap.objs.size<=b)/\b≠X.env.locals/\(∀ x c,X.env.cells.lookup x=some c->c≠b)/\∀ p∈X.pn++pins,p.1≠b) :
  bG X pins σ H' { s with heap:=h',gens:=g',drawn:=d',toks:=t' }:=by
 obtain ⟨m,⟨o,es,ep,ho,r⟩,_⟩:=id I.loc
 obtain ⟨sl,hL⟩:=u.any ho I.free fun z=>(hch _ z).2.1 rfl
 exact I.step (ch:=ch) hch (fun b o hL hb hc e n=>u.keep b o e n (fun z=>(List.mem_cons.mp (I.stkSub b z)).elim hL hb) hc) (fun b o _ _ hc e n=>u.any e n hc) (fun b o hc e n=>u.free b o e n hc) (fun b o hc e=>u.there b o e hc) u.tups u.frzs u.tbls (fun m' hm=>by
  obtain ⟨o',es',ep',ho',r'⟩:=hm
  rw [ho] at ho';cases ho'
  exact ⟨_,es',ep',hL,r'⟩) hok hg
theorem bG.turned {t':Nat}{it:Addr}(I:bG X pins σ H s) (k:∀ b o,b≠it->s.heap.get? b=some o->h'.get? b=some o) (hn:H it=none) (hL:it≠X.env.locals)
  (h1:it∈X.ex\/X.s₀.heap.objs.size<=it) (h2:∀ x c,X.env.cells.lookup x=some c->c≠it) (h3:∀ p∈X.pn++pins,p.1≠it):bG X pins σ H { s with heap:=h',toks:=t' }:=by
 have nit:∀ b u,H b=some u->b≠it:=fun b u e z=>by rw [z,hn] at e;cases e
 refine I.step (g':=s.gens) (d':=s.drawn) (ch:=[it]) (fun b hb=>?_) (fun b o _ _ hc e _=>k b o (fun z=>hc (by simp [z])) e) (fun b o _ _ hc e _=>⟨o.slots,k b o (fun z=>hc (by simp [z])) e⟩) (fun _ _ _ _ n=>n)
  (fun b o hc e=>⟨o,k b o (fun z=>hc (by simp [z])) e⟩) (fun _ _ e=>e) (fun _ _ _ e=>e) (fun b ps e=>⟨#[],by rw [e];simp⟩) (fun m hm=>?_) (fun b u e=>?_) I.bare
 ·have e:b=it:=by simpa using hb
  subst e
  exact ⟨h1,hL,h2,h3⟩
 ·obtain ⟨o,es,ep,ho,r⟩:=hm
  exact ⟨o,es,ep,k _ o (Ne.symm hL) ho,r⟩
 ·refine (I.hok b u e).stay (fun c v hc q=>k c v ?_ q) (fun _ q=>q) fun _ _ q=>q
  rcases hc with z | z
  ·rw [z];exact nit b u e
  ·exact nit c _ z
theorem bG.tok (I:bG X pins σ H s) (t:Nat):bG X pins σ H { s with toks:=t }:=I.un (h':=s.heap) (t':=t) Un.refl I.hok
theorem bG.kept {t':Nat}(I:bG X pins σ H s) (k:∀ b u,s.heap.get? b=some u->h'.get? b=some u):bG X pins σ H { s with heap:=h',toks:=t' }:=I.un (Un.kept k) (I.hok.kept k)
theorem bG.laid {a:Addr}{o:HO}{t':Nat}(I:bG X pins σ H s) (k:∀ b u,s.heap.get? b=some u->h'.get? b=some u) (hp:s.heap.objs.size<=a) (new:dL X.prog X.w (aW H a o) h' a o) :
  bG X pins σ (aW H a o) { s with heap:=h',toks:=t' }:=I.un (Un.laid k hp (I.hok.fresh hp)) (I.hok.laid k hp new)
theorem bG.write {x e:Addr}{o:HO}{t':Nat}(I:bG X pins σ H s) (mu:Mut (H x)) (he:e=x\/H e=some (.own x)) (k:∀ b u,b≠e->s.heap.get? b=some u->h'.get? b=some u) (heo:∃ u,h'.get? e=some u)
  (new:dL X.prog X.w (aW H x o) h' x o):bG X pins σ (aW H x o) { s with heap:=h',toks:=t' }:=I.un (Un.write mu he k heo) (I.hok.write mu he k heo new)
theorem bG.pins_of {pins':List (Addr×Obj)}(I:bG X pins σ H s) (h:∀ p∈pins',s.heap.get? p.1=some p.2/\H p.1=none/\p.1≠X.env.locals/\p.1∉X.fs/\∀ v,p.2.data≠ .cell v):bG X pins' σ H s :=
 ⟨I.ok,I.os,I.bare,I.base,I.loc,I.cell,I.free,I.freeC,fun p hp=>(List.mem_append.mp hp).elim (fun z=>I.pin p (List.mem_append_left _ z)) (h p),I.hok,I.len⟩
theorem wH {N:List Str}(hN:N.Nodup) {i j:Nat}{x:Str}(a:N[i]?=some x) (b:N[j]?=some x):i=j:=by
 obtain ⟨h1,e1⟩:=List.getElem?_eq_some_iff.mp a
 obtain ⟨h2,e2⟩:=List.getElem?_eq_some_iff.mp b
 exact (List.getElem_inj hN).mp (e1.trans e2.symm)
theorem rE {M:Model}{A:Around}{E:Value->Shared->Prop}{i:Nat}{x:Str}{v:V}{u:Value}{Q:Unit->Shared->Prop}(I:bG X pins σ H s) (hN:X.N.Nodup) (hi:X.N[i]?=some x) (hx:Loc X.env.scope x) (r:bX v u)
  (h:∀ s',bG X pins (σ.set i (some v)) H s'->(∃ a,Heap.SameBut a s.heap s'.heap/\(a=X.env.locals\/X.env.cells.lookup x=some a))->Q () s') (hf:X.fn x=true\/X.env.scope.names.lookup x=some .local:=by first | exact .inl rfl | exact .inr rfl | assumption):wpAny M A (storeName X.env x u) Q E s:=by
 obtain ⟨m,hn,hl⟩:=id I.loc
 have hcls:(X.env.scope.kind == .class || (X.env.scope.kind == .module && X.env.locals != X.env.globals))=false:=by rw [I.ok.kind];rfl
 have hiσ: i < σ.length:=by rw [I.len];exact (List.getElem?_eq_some_iff.mp hi).1
 have cne:=I.cne
 have tracked:∀ {a:Addr}{h':Heap},(∃ o,s.heap.get? a=some o/\H a=none)->Heap.SameBut a s.heap h'->lK X.prog X.w H h':=fun {a h'} ha hs b ob e=>by
  obtain ⟨_,_,hfree⟩:=ha
  refine (I.hok b ob e).stay (fun c w' hc q=>(hs.2 c ?_).trans q) (fun _ q=>q) fun _ _ q=>q
  rintro rfl
  rcases hc with rfl | hc
  ·rw [hfree] at e;cases e
  ·rw [hfree] at hc;cases hc
 rcases hx with hk | hk
 ·refine wpAny_storeName_local hk hn (fun h' hn' hs=>?_) hcls
  obtain ⟨oL,_,_,hoL,_⟩:=id hn
  refine h _ ⟨I.ok,I.os,I.bare,⟨fun b o e n hb hx=>?_,fun b o e n hb hx=>?_,I.base.free,fun b o e hx=>?_,I.base.tups,I.base.frzs,I.base.tbls⟩,⟨_,hn',fun j y v' e1 e2 e3=>?_⟩,fun y c e=>?_,I.free,I.freeC,fun p hp=>?_,tracked ⟨oL,hoL,I.free⟩ hs,by simpa using I.len⟩ ⟨_,hs,.inl rfl⟩
  ·exact (hs.2 b (Nat.ne_of_lt (Nat.lt_of_lt_of_le (Heap.lt_size e) I.ok.above))).trans (I.base.keep b o e n hb hx)
  ·obtain ⟨sl,e1⟩:=I.base.slot b o e n hb hx
   exact ⟨sl,(hs.2 b (Nat.ne_of_lt (Nat.lt_of_lt_of_le (Heap.lt_size e) I.ok.above))).trans e1⟩
  ·obtain ⟨o',e1⟩:=I.base.there b o e hx
   exact ⟨o',(hs.2 b (Nat.ne_of_lt (Nat.lt_of_lt_of_le (Heap.lt_size e) I.ok.above))).trans e1⟩
  ·by_cases hj:j=i
   ·subst hj
    rw [hi] at e1;cases e1
    rw [List.getElem?_set_self hiσ] at e2
    cases e2
    exact ⟨u,r,.inl ⟨hk,by simp⟩⟩
   ·rw [List.getElem?_set_ne (Ne.symm hj)] at e2
    obtain ⟨u',r',q⟩:=hl j y v' e1 e2 e3
    refine ⟨u',r',?_⟩
    rcases q with ⟨k,e⟩ | ⟨k,c,e,z⟩
    ·refine .inl ⟨k,?_⟩
     have:y≠x:=fun e=>hj (wH hN e1 (e ▸ hi))
     simp [this,e]
    ·exact .inr ⟨k,c,e,z.sameBut hs (cne y c e)⟩
  ·obtain ⟨w',z⟩:=I.cell y c e
   exact ⟨w',z.sameBut hs (cne y c e)⟩
  ·obtain ⟨e,n,ne,nf,d⟩:=I.pin p hp
   exact ⟨(hs.2 p.1 ne).trans e,n,ne,nf,d⟩
 ·have hfn:X.fn x=true:=by
   rcases hf with z | z
   ·exact z
   ·rw [z] at hk;cases hk
  obtain ⟨c,hc⟩:=I.ok.has x (.inl hk)
  obtain ⟨w',z⟩:=I.cell x c hc
  refine wpAny_storeName_cell I.ok.kind hk hc z (fun h' hc' hs=>?_)
  obtain ⟨oc,hoc,hocd⟩:=id z
  refine h { s with heap:=h' } ⟨I.ok,I.os,I.bare,⟨fun b o e n hb hx=>?_,fun b o e n hb hx=>?_,I.base.free,fun b o e hx=>?_,I.base.tups,I.base.frzs,I.base.tbls⟩,⟨m,hn.sameBut hs (Ne.symm (cne x c hc)),fun j y v' e1 e2 e3=>?_⟩,fun y c' e=>?_,I.free,I.freeC,fun p hp=>?_,tracked ⟨oc,hoc,I.freeC x c hc⟩ hs,by simpa using I.len⟩ ⟨c,hs,.inr hc⟩
  ·exact (hs.2 b (Nat.ne_of_lt (Nat.lt_of_lt_of_le (Heap.lt_size e) (I.ok.cab x c hfn hc)))).trans (I.base.keep b o e n hb hx)
  ·obtain ⟨sl,e1⟩:=I.base.slot b o e n hb hx
   exact ⟨sl,(hs.2 b (Nat.ne_of_lt (Nat.lt_of_lt_of_le (Heap.lt_size e) (I.ok.cab x c hfn hc)))).trans e1⟩
  ·obtain ⟨o',e1⟩:=I.base.there b o e hx
   exact ⟨o',(hs.2 b (Nat.ne_of_lt (Nat.lt_of_lt_of_le (Heap.lt_size e) (I.ok.cab x c hfn hc)))).trans e1⟩
  ·by_cases hj:j=i
   ·subst hj
    rw [hi] at e1;cases e1
    rw [List.getElem?_set_self hiσ] at e2
    cases e2
    exact ⟨u,r,.inr ⟨.inl hk,c,hc,hc'⟩⟩
   ·rw [List.getElem?_set_ne (Ne.symm hj)] at e2
    obtain ⟨u',r',q⟩:=hl j y v' e1 e2 e3
    refine ⟨u',r',?_⟩
    rcases q with q | ⟨k,c',e,z'⟩
    ·exact .inl q
    ·refine .inr ⟨k,c',e,z'.sameBut hs ?_⟩
     rintro rfl
     exact hj (wH hN e1 (I.ok.inj _ _ _ e hc ▸ hi))
  ·by_cases hcc:c'=c
   ·subst hcc;exact ⟨_,hc'⟩
   ·obtain ⟨w2,z2⟩:=I.cell y c' e
    exact ⟨w2,z2.sameBut hs hcc⟩
  ·obtain ⟨e,n,ne,nf,d⟩:=I.pin p hp
   refine ⟨(hs.2 p.1 ?_).trans e,n,ne,nf,d⟩
   intro q
   rw [q,hoc] at e
   have q':oc=p.2:=Option.some.inj e
   exact d w' (by rw [<- q'];exact hocd)
theorem kC {M:Model}{A:Around}{E:Value->Shared->Prop}{i:Nat}{x:Str}{v:V}{u:Value}{Q:Unit->Shared->Prop}(I:bG X pins σ H s) (hN:X.N.Nodup) (hi:X.N[i]?=some x) (hx:Loc X.env.scope x) (r:bX v u)
  (h:∀ s',bG X pins (σ.set i (some v)) H s'->Q () s') (hf:X.fn x=true\/X.env.scope.names.lookup x=some .local:=by first | exact .inl rfl | exact .inr rfl | assumption):wpAny M A (storeName X.env x u) Q E s :=
 rE I hN hi hx r (fun s' I' _=>h s' I') hf
theorem bG.call' {s':Shared}{ch:List Addr}(I:bG X pins σ H s) (ho:s'.os=s.os) (u:Un (frs X.stack) ch H H' s.heap s'.heap) (hok:lK X.prog X.w H' s'.heap) (hg:AllBare s'.gens)
  (hch:∀ b∈ch,(b∈X.ex\/X.s₀.heap.objs.size<=b)/\b≠X.env.locals/\(∀ x c,X.env.cells.lookup x=some c->c≠b)/\∀ p∈X.pn++pins,p.1≠b):bG X pins σ H' s':=by
 obtain ⟨h',g',d',t',o'⟩:=s'
 have e:o'=s.os:=ho
 subst e
 exact I.call (g':=g') (t':=t') (d':=d') u hok hg hch
end
abbrev XK:=Value->Option Addr->Hp->Prop
abbrev St:=List (Option V)
abbrev VK:=V->Hp->Prop
abbrev TE:=St->Hp->VK->Prop
abbrev TT:=St->Hp->(Bool->Hp->Prop)->Prop
abbrev TA:=St->Hp->(List V->Hp->Prop)->Prop
structure lE where
 nx:St->Hp->Prop
 rt:VK
 bk:St->Hp->Prop:=fun _ _=>False
 ct:St->Hp->Prop:=fun _ _=>False
abbrev TS:=lE->St->Hp->Prop
def EP (X:Cx) (pins:List (Addr×Obj)) (σ: St) (Q:VK) (u:Value) (s':Shared):Prop:=∃ v H',bG X pins σ H' s'/\bX v u/\Q v H'
def TP (X:Cx) (pins:List (Addr×Obj)) (σ: St) (Q:Bool->Hp->Prop) (b:Bool) (s':Shared):Prop:=∃ H',bG X pins σ H' s'/\Q b H'
def AP (X:Cx) (pins:List (Addr×Obj)) (σ: St) (Q:List V->Hp->Prop) (us:List Value) (s':Shared):Prop:=∃ vs H',bG X pins σ H' s'/\bP vs us/\Q vs H'
def SP (X:Cx) (pins:List (Addr×Obj)) (D:lE) (f:Flow) (s':Shared):Prop :=
 match f with
 | .next=>∃ σ' H',bG X pins σ' H' s'/\D.nx σ' H'
 | .brk=>∃ σ' H',bG X pins σ' H' s'/\D.bk σ' H'
 | .cont=>∃ σ' H',bG X pins σ' H' s'/\D.ct σ' H'
 | .ret u=>∃ v σ' H',bG X pins σ' H' s'/\bX v u/\D.rt v H'
def PE (X:Cx) (e:Expr) (t:TE):Prop :=
 ∀ (pins:List (Addr×Obj)) (s:Shared) (σ: St) (H:Hp) (Q:VK),bG X pins σ H s->t σ H Q->wpAny (model X.prog X.w) X.A (eval e X.env) (EP X pins σ Q) X.xe s
def PT (X:Cx) (e:Expr) (t:TT):Prop :=
 ∀ (pins:List (Addr×Obj)) (s:Shared) (σ: St) (H:Hp) (Q:Bool->Hp->Prop),bG X pins σ H s->t σ H Q->wpAny (model X.prog X.w) X.A (isTrue e X.env (eval e X.env)) (TP X pins σ Q) X.xe s
def PW (X:Cx) (e:Expr) (t:TT):Prop :=
 ∀ (whole:Sem Value) (pins:List (Addr×Obj)) (s:Shared) (σ: St) (H:Hp) (Q:Bool->Hp->Prop),bG X pins σ H s->t σ H Q->wpAny (model X.prog X.w) X.A (isTrue e X.env whole) (TP X pins σ Q) X.xe s
theorem PW.pt {X:Cx}{e:Expr}{t:TT}(h:PW X e t):PT X e t:=h _
def PA (X:Cx) (es:List Expr) (t:TA):Prop :=
 ∀ (pos:Pos) (pins:List (Addr×Obj)) (s:Shared) (σ: St) (H:Hp) (Q:List V->Hp->Prop),bG X pins σ H s->t σ H Q->wpAny (model X.prog X.w) X.A (spliced (backTo pos (starEach es X.env))) (AP X pins σ Q) X.xe s
def PS (X:Cx) (st:Stmt) (t:TS):Prop :=
 ∀ (pins:List (Addr×Obj)) (s:Shared) (σ: St) (H:Hp) (D:lE),bG X pins σ H s->t D σ H->wpAny (model X.prog X.w) X.A (exec st X.env) (SP X pins D) X.xe s
def PSs (X:Cx) (st:List Stmt) (t:TS):Prop :=
 ∀ (pins:List (Addr×Obj)) (s:Shared) (σ: St) (H:Hp) (D:lE),bG X pins σ H s->t D σ H->wpAny (model X.prog X.w) X.A (execs st X.env) (SP X pins D) X.xe s
theorem dQ {α: Type}{t:Sem α}{Q Q':α->Shared->Prop}{M:Model}{A:Around}{E:Value->Shared->Prop}{s:Shared}(h:wpAny M A t Q E s) (hQ:∀ a s,Q a s->Q' a s):wpAny M A t Q' E s:=wpAny_mono h hQ fun _ _ x=>x
section
variable {X:Cx}
def lX (i:Nat):TE:=fun σ H Q=>∃ v,σ[i]?=some (some v)/\Q v H
def tC (v:V):TE:=fun _ H Q=>Q v H
theorem bR9 {i:Nat}{x:Str}{pos:Pos}(hN:X.N[i]?=some x) (hv:Vis X.env.scope x) (hd:(x == ("__debug__": Str))=false:=by decide) (hcd:(x == ("__classdict__": Str))=false:=by decide):PE X (.Name x pos) (lX i):=by
 intro pins s σ H Q I h
 obtain ⟨v,e,h⟩:=h
 obtain ⟨m,hn,hl⟩:=I.loc
 obtain ⟨u,r,l⟩:=hl i x v hN e hv
 have fin:EP X pins σ Q u s:=⟨v,H,I,r,h⟩
 rcases l with ⟨hk,hm⟩ | ⟨hk,c,hc,hcell⟩
 ·exact wpAny_Name (wpAny_loadName_local I.ok.kind hk hn hm fin) hd
 ·rcases hk with hk | hk
  ·exact wpAny_Name (wpAny_loadName_cell I.ok.kind hk hc hcell fin) hd
  ·exact wpAny_Name (wpAny_loadName_free I.ok.kind hk hc hcell fin hcd) hd
theorem aD {i j pos}:PE X (.Constant (.int i) j pos) (tC (.int i)):=fun _ _ _ H _ I h=>wpAny_Constant_int ⟨.int i,H,I.tok _,⟨_,rfl⟩,h⟩
theorem pE {b j pos}:PE X (.Constant (.bool b) j pos) (tC (.bl b)):=fun _ _ _ H _ I h=>Constant_bool ⟨.bl b,H,I,rfl,h⟩
theorem aJ {x j pos}:PE X (.Constant (.str x) j pos) (tC (.str x)):=fun _ _ _ H _ I h=>Calls.Constant_str ⟨.str x,H,I.tok _,⟨_,rfl⟩,h⟩
def Gl (X:Cx) (x:Str):Prop:=X.env.kindOf x=some .globalImplicit
theorem aD6 {E:Value->Shared->Prop}{pins:List (Addr×Obj)}{s:Shared}{σ: St}{H:Hp}{x:Str}{u:Value}{pos:Pos}{Q:Value->Shared->Prop}(I:bG X pins σ H s) (hg:Gl X x) (hm:X.mg x=some u) (h:Q u s)
  (hd:(x == ("__debug__": Str))=false:=by decide):wpAny (model X.prog X.w) X.A (eval (.Name x pos) X.env) Q E s :=
 Calls.Name_function_global I.ok.kind hg (Calls.loadGlobal_global (by rw [I.ok.glob];exact I.mod.glob.keeps I.bk) hm h) hd
theorem jL {E:Value->Shared->Prop}{pins:List (Addr×Obj)}{s:Shared}{σ: St}{H:Hp}{x:Str}{u:Value}{pos:Pos}{Q:Value->Shared->Prop}(I:bG X pins σ H s) (hg:Gl X x) (hm:X.mg x=none) (hv:bootBuiltins x=some u) (h:Q u s)
  (hn:x≠"__name__":=by decide) (hd:(x == ("__debug__": Str))=false:=by decide):wpAny (model X.prog X.w) X.A (eval (.Name x pos) X.env) Q E s:=by
 obtain ⟨mb,h1,h2⟩:=I.mod.blt
 exact Calls.Name_function_global I.ok.kind hg (Calls.loadGlobal_builtin (by rw [I.ok.glob];exact I.mod.glob.keeps I.bk) hm (by rw [I.ok.blt];exact h1.keeps I.bk) ((h2 x hn).trans hv) h) hd
theorem gX {x:Str}{v:V}{u:Value}{pos:Pos}(hg:Gl X x) (hm:X.mg x=some u) (r:bX v u) (hd:(x == ("__debug__": Str))=false:=by decide):PE X (.Name x pos) (tC v) :=
 fun _ _ _ H _ I h=>aD6 I hg hm ⟨v,H,I,r,h⟩ hd
theorem uA {x:Str}{v:V}{u:Value}{pos:Pos}(hg:Gl X x) (hm:X.mg x=none) (hv:bootBuiltins x=some u) (r:bX v u) (hn:x≠"__name__":=by decide) (hd:(x == ("__debug__": Str))=false:=by decide):PE X (.Name x pos) (tC v) :=
 fun _ _ _ H _ I h=>jL I hg hm hv ⟨v,H,I,r,h⟩ hn hd
variable {a b:Expr}{ta tb:TE}{pos:Pos}
def PC (X:Cx) (op:CmpOp) (a b:Expr) (t:TE):Prop :=
 ∀ (pins:List (Addr×Obj)) (s:Shared) (σ: St) (H:Hp) (Q:VK),bG X pins σ H s->t σ H Q ->
  wpAny (model X.prog X.w) X.A (eval a X.env) (fun v s₁=>wpAny (model X.prog X.w) X.A (eval b X.env) (fun u s₂=>wpAny (model X.prog X.w) X.A (compareOp op v u) (EP X pins σ Q) X.xe s₂) X.xe s₁) X.xe s
theorem aT1 (b:Expr) {op:CmpOp}(h:op≠ .In) (h2:op≠ .NotIn):behindInMarks op b=false:=by
 have e1:(op == CmpOp.In)=false:=by cases op <;> first | rfl | exact absurd rfl h
 have e2:(op == CmpOp.NotIn)=false:=by cases op <;> first | rfl | exact absurd rfl h2
 cases b <;> simp [behindInMarks,e1,e2]
def tB (t:TE):TT:=fun σ H Q=>t σ H fun x H1=>∃ c,x= .bl c/\Q c H1
theorem bP4 {op:CmpOp}{t:TE}(h:PC X op a b t) (h1:behindInMarks op b=false:=by first | exact aT1 _ (by decide) (by decide) | rfl):PT X (.Compare a [op] [b] pos) (tB t):=by
 intro pins s σ H Q I hw
 refine wpAny_isTrue_Compare1 (dQ (h pins s σ H _ I hw) fun v s1 h1=>dQ h1 fun u s2 h2=>dQ h2 fun c s3 ⟨x,H1,I1,r1,q1⟩=>?_) h1
 obtain ⟨d,rfl,q⟩:=q1
 cases r1
 exact wpAny_truthy_bool ⟨H1,I1,q⟩
theorem gE {e:Expr}{t:TE}(h:PE X e t) (he:∀ whole,isTrue e X.env whole=(do let v <- whole;standAt e.pos;holding [v] (truthy v)):=by intro _;rfl):PT X e (tB t):=by
 intro pins s σ H Q I hw
 refine isTrue_plain (dQ (h pins s σ H _ I hw) fun v s1 ⟨x,H1,I1,r1,q1⟩=>?_) (he _)
 obtain ⟨d,rfl,q⟩:=q1
 cases r1
 exact wpAny_truthy_bool ⟨H1,I1,q⟩
variable {tA tB':TT}{eX:List Expr}
def cG0 (t u:TT):TT:=fun σ H Q=>t σ H fun c H1=>if c=true then u σ H1 Q else Q false H1
def tOr (t u:TT):TT:=fun σ H Q=>t σ H fun c H1=>if c=true then Q true H1 else u σ H1 Q
def cF4 (t:TT):TT:=fun σ H Q=>t σ H fun c H1=>Q (!c) H1
theorem gT (ha:PT X a tA):PW X (.BoolOp .And [a] pos) tA:=by
 intro wh pins s σ H Q I h
 refine isTrue_and (dQ (ha pins s σ H Q I h) fun c s1 e=>?_)
 cases c with
 | true=>exact isTrue_and_nil e
 | false=>exact e
theorem uP (ha:PT X a tA):PW X (.BoolOp .Or [a] pos) tA:=by
 intro wh pins s σ H Q I h
 refine isTrue_or (dQ (ha pins s σ H Q I h) fun c s1 e=>?_)
 cases c with
 | false=>exact isTrue_or_nil e
 | true=>exact e
theorem iG (ha:PT X a tA) (hb:PW X (.BoolOp .And (b :: eX) pos) tB'):PW X (.BoolOp .And (a :: b :: eX) pos) (cG0 tA tB'):=by
 intro wh pins s σ H Q I h
 refine isTrue_and (dQ (ha pins s σ H _ I h) fun c s1 ⟨H1,I1,q1⟩=>?_)
 cases c with
 | true=>exact hb wh pins s1 σ H1 Q I1 q1
 | false=>exact ⟨H1,I1,q1⟩
theorem aD5 (ha:PT X a tA) (hb:PW X (.BoolOp .Or (b :: eX) pos) tB'):PW X (.BoolOp .Or (a :: b :: eX) pos) (tOr tA tB'):=by
 intro wh pins s σ H Q I h
 refine isTrue_or (dQ (ha pins s σ H _ I h) fun c s1 ⟨H1,I1,q1⟩=>?_)
 cases c with
 | true=>exact ⟨H1,I1,q1⟩
 | false=>exact hb wh pins s1 σ H1 Q I1 q1
theorem oO (ha:PT X a tA):PT X (.UnaryOp .Not a pos) (cF4 tA):=by
 intro pins s σ H Q I h
 exact isTrue_not (ha pins s σ H (fun c H1=>Q (!c) H1) I h)
def bY6 (ta tb:TE):TE:=fun σ H Q=>ta σ H fun x H1=>∃ c,x= .bl c/\if c=true then tb σ H1 Q else Q (.bl false) H1
def cH1 (ta tb:TE):TE:=fun σ H Q=>ta σ H fun x H1=>∃ c,x= .bl c/\if c=true then Q (.bl true) H1 else tb σ H1 Q
def bX2 (ta:TE):TE:=fun σ H Q=>ta σ H fun x H1=>∃ c,x= .bl c/\Q (.bl (!c)) H1
theorem mS {op} {t:TE}(h:PE X a t):PE X (.BoolOp op [a] pos) t:=fun pins s σ H Q I hw=>BoolOp_one (h pins s σ H Q I hw)
theorem lA (ha:PE X a ta) (hb:PE X (.BoolOp .And (b :: eX) pos) tb):PE X (.BoolOp .And (a :: b :: eX) pos) (bY6 ta tb):=by
 intro pins s σ H Q I h
 refine BoolOp_and (dQ (ha pins s σ H _ I h) fun v s1 ⟨x,H1,I1,r1,q1⟩=>?_)
 obtain ⟨c,rfl,q1⟩:=q1
 cases r1
 refine wpAny_truthy_bool ?_
 cases c with
 | true=>exact hb pins s1 σ H1 Q I1 q1
 | false=>exact ⟨.bl false,H1,I1,rfl,q1⟩
theorem cC0 (ha:PE X a ta) (hb:PE X (.BoolOp .Or (b :: eX) pos) tb):PE X (.BoolOp .Or (a :: b :: eX) pos) (cH1 ta tb):=by
 intro pins s σ H Q I h
 refine BoolOp_or (dQ (ha pins s σ H _ I h) fun v s1 ⟨x,H1,I1,r1,q1⟩=>?_)
 obtain ⟨c,rfl,q1⟩:=q1
 cases r1
 refine wpAny_truthy_bool ?_
 cases c with
 | false=>exact hb pins s1 σ H1 Q I1 q1
 | true=>exact ⟨.bl true,H1,I1,rfl,q1⟩
theorem bS8 (ha:PE X a ta):PE X (.UnaryOp .Not a pos) (bX2 ta):=by
 intro pins s σ H Q I h
 refine UnaryOp_ (dQ (ha pins s σ H _ I h) fun v s1 ⟨x,H1,I1,r1,q1⟩=>?_)
 obtain ⟨c,rfl,q1⟩:=q1
 cases r1
 exact not_of (wpAny_truthy_bool ⟨.bl (!c),H1,I1,rfl,q1⟩)
def tIf (t:TT) (ta tb:TE):TE:=fun σ H Q=>t σ H fun c H1=>if c=true then ta σ H1 Q else tb σ H1 Q
theorem oS {c:Expr}(hc:PT X c tA) (ha:PE X a ta) (hb:PE X b tb):PE X (.IfExp c a b pos) (tIf tA ta tb):=by
 intro pins s σ H Q I h
 refine wpAny_IfExp (dQ (hc pins s σ H _ I h) fun d s1 ⟨H1,I1,q1⟩=>?_)
 cases d with
 | true=>exact ha pins s1 σ H1 Q I1 q1
 | false=>exact hb pins s1 σ H1 Q I1 q1
end
def bN (K:PySem.W.Frag) (H:Hp) (a:Addr) (xs:List V):Prop :=
 Rd H a (.lst xs) \/
  ∃ (o:Obj) (its:Array Value) (n:Nat),K.lookup a=some o/\o.cls= .type "list"/\o.dict=none/\o.data= .seq its n/\its.size<=sizeLine/\bP xs its.toList
def aX (K:PySem.W.Frag) (H:Hp) (a:Addr) (xs:List V):Prop :=
 Rd H a (.tup xs) \/
  ∃ (o:Obj) (its:Array Value) (n:Nat),K.lookup a=some o/\o.cls= .type "tuple"/\o.data= .seq its n/\its.size<=sizeLine/\bP xs its.toList
def cG6:Value->Option V
 | .none=>some .non
 | .bool b=>some (.bl b)
 | .int i _=>some (.int i)
 | .str x _=>some (.str x)
 | .bytes b _=>some (.byt b)
 | .float b _=>some (.flt b)
 | .ref a=>some (.ref a)
 | .type n=>some (.ty n)
 | _=>none
theorem bX.abs {x:V}{u:Value}(r:bX x u):cG6 u=some x:=by
 cases x with
 | non=>cases r;rfl
 | bl _=>cases r;rfl
 | int _=>obtain ⟨t,rfl⟩:=r;rfl
 | str _=>obtain ⟨t,rfl⟩:=r;rfl
 | byt _=>obtain ⟨t,rfl⟩:=r;rfl
 | flt _=>obtain ⟨t,rfl⟩:=r;rfl
 | ref _=>cases r;rfl
 | ty _=>cases r;rfl
theorem bX.inj {x y:V}{u:Value}(r:bX x u) (q:bX y u):x=y:=Option.some.inj (r.abs.symm.trans q.abs)
theorem bP.inj:∀ {xs ys:List V}{us:List Value},bP xs us->bP ys us->xs=ys
 | _,_,_,.nil,.nil=>rfl
 | _,_,_,.cons r t,.cons r' t'=>by rw [r.inj r',bP.inj t t']
section
variable {X:Cx}{pins:List (Addr×Obj)}{σ: St}{H:Hp}{s:Shared}{a:Addr}{xs ys:List V}
theorem bN.of {K:PySem.W.Frag}(h:H a=some (.lst xs)):bN K H a xs:= .inl (.inl h)
theorem aX.of {K:PySem.W.Frag}(h:H a=some (.tup xs)):aX K H a xs:= .inl (.inl h)
theorem bG.list (I:bG X pins σ H s) (h:bN X.K H a xs):∃ its:List Value,bP xs its/\PlainL s.heap a its.toArray/\xs.length<=sizeLine:=by
 rcases h with h | ⟨o,its,n,hk,hc,hd,hs,hz,r⟩
 ·obtain ⟨z,its,n,r,e⟩:=h.ok I.hok
  exact ⟨its,r,⟨_,n,e,rfl,rfl,rfl⟩,z⟩
 ·refine ⟨its.toList,r,⟨o,n,I.kIn a o hk,hc,hd,by simpa using hs⟩,?_⟩
  have e:=r.length
  simp only [Array.length_toList] at e
  omega
theorem bG.tuple (I:bG X pins σ H s) (h:aX X.K H a xs):∃ its:List Value,bP xs its/\IsTup s.heap a its.toArray/\xs.length<=sizeLine:=by
 rcases h with h | ⟨o,its,n,hk,hc,hs,hz,r⟩
 ·obtain ⟨z,its,r,p⟩:=h.ok I.hok
  exact ⟨its,r,p.is,z⟩
 ·refine ⟨its.toList,r,⟨o,I.kIn a o hk,hc,n,by simpa using hs⟩,?_⟩
  have e:=r.length
  simp only [Array.length_toList] at e
  omega
theorem bG.list_inj (I:bG X pins σ H s) (h:bN X.K H a xs) (h':bN X.K H a ys):xs=ys:=by
 obtain ⟨its,r,⟨o,n,e,_,_,d⟩,_⟩:=I.list h
 obtain ⟨its',r',⟨o',n',e',_,_,d'⟩,_⟩:=I.list h'
 rw [e] at e';cases e'
 rw [d] at d'
 injection d' with d1 _
 have:its=its':=by simpa using congrArg Array.toList d1
 subst this
 exact r.inj r'
theorem bG.tuple_inj (I:bG X pins σ H s) (h:aX X.K H a xs) (h':aX X.K H a ys):xs=ys:=by
 obtain ⟨its,r,⟨o,e,_,n,d⟩,_⟩:=I.tuple h
 obtain ⟨its',r',⟨o',e',_,n',d'⟩,_⟩:=I.tuple h'
 rw [e] at e';cases e'
 rw [d] at d'
 injection d' with d1 _
 have:its=its':=by simpa using congrArg Array.toList d1
 subst this
 exact r.inj r'
end
abbrev Cx.wish (X:Cx) (E:Value->Shared->Prop):Cx:={ X with xe:=E }
abbrev Cx.nox (X:Cx):Cx:=X.wish fun _ _=>False
theorem Cx.Ok.wish {X:Cx}(ok:X.Ok) (E:Value->Shared->Prop):(X.wish E).Ok :=
 ⟨ok.mod,ok.kind,ok.glob,ok.blt,ok.above,ok.inj,ok.has,ok.cab,ok.hd,ok.frames,ok.stk,ok.exf,ok.bs,ok.bsz,ok.noex,ok.exfs,ok.funs,ok.frf⟩
theorem Cx.Ok.unwish {X:Cx}{E:Value->Shared->Prop}(ok:(X.wish E).Ok):X.Ok :=
 ⟨ok.mod,ok.kind,ok.glob,ok.blt,ok.above,ok.inj,ok.has,ok.cab,ok.hd,ok.frames,ok.stk,ok.exf,ok.bs,ok.bsz,ok.noex,ok.exfs,ok.funs,ok.frf⟩
section
variable {X:Cx}{pins:List (Addr×Obj)}{σ: St}{H:Hp}{s:Shared}{E:Value->Shared->Prop}
theorem bG.wish (I:bG X pins σ H s) (E:Value->Shared->Prop):bG (X.wish E) pins σ H s:=⟨I.ok.wish E,I.os,I.bare,I.base,I.loc,I.cell,I.free,I.freeC,I.pin,I.hok,I.len⟩
theorem bG.unwish (I:bG (X.wish E) pins σ H s):bG X pins σ H s:=⟨I.ok.unwish,I.os,I.bare,I.base,I.loc,I.cell,I.free,I.freeC,I.pin,I.hok,I.len⟩
theorem SP.unwish {D:lE}{f:Flow}{s':Shared}(h:SP (X.wish E) pins D f s'):SP X pins D f s':=by
 cases f with
 | next=>obtain ⟨σ',H',I,q⟩:=h;exact ⟨σ',H',I.unwish,q⟩
 | brk=>obtain ⟨σ',H',I,q⟩:=h;exact ⟨σ',H',I.unwish,q⟩
 | cont=>obtain ⟨σ',H',I,q⟩:=h;exact ⟨σ',H',I.unwish,q⟩
 | ret u=>obtain ⟨v,σ',H',I,r,q⟩:=h;exact ⟨v,σ',H',I.unwish,r,q⟩
theorem PSs.nox {st:List Stmt}{t:TS}(h:PSs X.nox st t):PSs X st t:=fun pins s σ H D I hw =>
 wpAny_mono (h pins s σ H D (I.wish _) hw) (fun _ _ q=>q.unwish) fun _ _ z=>False.elim z
end
section
variable {X:Cx}{st:Stmt}{eX:List Stmt}{t u:TS}{e:Expr}{te:TE}{pos:Pos}
def tNext:TS:=fun D σ H=>D.nx σ H
def bD2 (t u:TS):TS:=fun D σ H=>t { D with nx:=u D } σ H
theorem bA:PSs X [] tNext:=fun _ _ σ H _ I h=>wpAny_execs_nil ⟨σ,H,I,h⟩
theorem aF (h1:PS X st t) (h2:PSs X eX u):PSs X (st :: eX) (bD2 t u):=by
 intro pins s σ H D I h
 refine wpAny_execs_cons (dQ (h1 pins s σ H { D with nx:=u D } I h) fun f s1 q=>?_)
 cases f with
 | next =>
  obtain ⟨σ',H',I',q⟩:=q
  exact h2 pins s1 σ' H' D I' q
 | ret v=>exact q
 | brk=>exact q
 | cont=>exact q
theorem aH (h1:PS X st t):PSs X [st] t:=by
 intro pins s σ H D I h
 refine wpAny_execs_cons (dQ (h1 pins s σ H D I h) fun f s1 q=>?_)
 cases f with
 | next=>exact wpAny_execs_nil q
 | ret v=>exact q
 | brk=>exact q
 | cont=>exact q
theorem bG.quiet {pins:List (Addr×Obj)}{σ: St}{H:Hp}{s:Shared}(I:bG X pins σ H s):interactive X.env=false:=by simp [interactive,I.ok.kind]
def bZ5 (te:TE):TS:=fun D σ H=>te σ H fun _ H1=>D.nx σ H1
theorem dR (he:PE X e te) (hs:swapsWith e none pos.line X.env=pure false:=by rfl):PS X (.Expr e pos) (bZ5 te):=by
 intro pins s σ H D I h
 exact wpAny_Expr_any (dQ (he pins s σ H _ I h) fun v s1 ⟨x,H1,I1,r1,q1⟩=>⟨σ,H1,I1,q1⟩) I.quiet hs
def bD6 (te:TE):TS:=fun D σ H=>te σ H D.rt
theorem aM (he:PE X e te):PS X (.Return (some e) pos) (bD6 te):=by
 intro pins s σ H D I h
 exact wpAny_Return_some (dQ (he pins s σ H _ I h) fun v s1 ⟨x,H1,I1,r1,q1⟩=>⟨x,σ,H1,I1,r1,q1⟩)
def bQ2 (c:TT) (t u:TS):TS:=fun D σ H=>c σ H fun b H1=>if b=true then t D σ H1 else u D σ H1
theorem bT {c:Expr}{a b:List Stmt}{tc:TT}(hc:PT X c tc) (ha:PSs X a t) (hb:PSs X b u):PS X (.If c a b pos) (bQ2 tc t u):=by
 intro pins s σ H D I h
 refine wpAny_If (dQ (hc pins s σ H _ I h) fun d s1 ⟨H1,I1,q1⟩=>?_)
 cases d with
 | true=>exact ha pins s1 σ H1 D I1 q1
 | false=>exact hb pins s1 σ H1 D I1 q1
def tNever:TS:=fun _ _ _=>False
theorem sU {sts:List Stmt}:PSs X sts tNever:=fun _ _ _ _ _ _ h=>h.elim
end
abbrev TG:=V->St->Hp->(St->Hp->Prop)->Prop
abbrev TGs:=List V->St->Hp->(St->Hp->Prop)->Prop
def PG (X:Cx) (target:Expr) (t:TG):Prop :=
 ∀ (pins:List (Addr×Obj)) (s:Shared) (σ: St) (H:Hp) (v:V) (u:Value) (Q:St->Hp->Prop),bG X pins σ H s->bX v u->t v σ H Q ->
  wpAny (model X.prog X.w) X.A (assign target X.env u) (fun _ s'=>∃ σ' H',bG X pins σ' H' s'/\Q σ' H') X.xe s
def PGs (X:Cx) (ts:List Expr) (t:TGs):Prop :=
 ∀ (pins:List (Addr×Obj)) (s:Shared) (σ: St) (H:Hp) (vs:List V) (us:List Value) (Q:St->Hp->Prop),bG X pins σ H s->bP vs us->t vs σ H Q ->
  wpAny (model X.prog X.w) X.A (assignInOrder ((assignEach ts X.env).map (·.2)) us) (fun _ s'=>∃ σ' H',bG X pins σ' H' s'/\Q σ' H') X.xe s
abbrev TIp:=V->V->Hp->VK->Prop
def PIp (X:Cx) (op:Operator) (t:TIp):Prop :=
 ∀ (pins:List (Addr×Obj)) (s:Shared) (σ: St) (H:Hp) (x y:V) (v u:Value) (Q:VK),bG X pins σ H s->bX x v->bX y u->t x y H Q ->
  wpAny (model X.prog X.w) X.A (inplaceOp op v u) (EP X pins σ Q) X.xe s
section
variable {X:Cx}{pos:Pos}
def aB5 (i:Nat):TG:=fun v σ H Q=>Q (σ.set i (some v)) H
theorem aU {i:Nat}{x:Str}(hN:X.N.Nodup) (hi:X.N[i]?=some x) (hx:Loc X.env.scope x) (hf:X.fn x=true\/X.env.scope.names.lookup x=some .local:=by first | exact .inl rfl | exact .inr rfl | assumption):PG X (.Name x pos) (aB5 i):=by
 intro pins s σ H v u Q I r h
 exact wpAny_assign_Name (kC I hN hi hx r (fun s' I'=>⟨_,H,I',h⟩) hf)
def gNil:TGs:=fun vs σ H Q=>vs=[]/\Q σ H
def cD7 (t:TG) (u:TGs):TGs:=fun vs σ H Q=>∃ v r,vs=v :: r/\t v σ H fun σ' H'=>u r σ' H' Q
theorem dY:PGs X [] gNil:=by
 intro pins s σ H vs us Q I r h
 obtain ⟨e,h⟩:=h
 subst e
 cases r
 exact assignInOrder_nil ⟨σ,H,I,h⟩
theorem bJ {e:Expr}{es:List Expr}{t:TG}{u:TGs}(h1:PG X e t) (h2:PGs X es u)
  (hs:(assignEach (e :: es) X.env).map (·.2)=assign e X.env :: (assignEach es X.env).map (·.2):=by rfl):PGs X (e :: es) (cD7 t u):=by
 intro pins s σ H vs us Q I r h
 obtain ⟨v,vr,e1,h⟩:=h
 subst e1
 cases r with
 | cons r rr =>
  rw [hs]
  refine assignInOrder_cons (dQ (h1 pins s σ H _ _ _ I r h) fun _ s1 ⟨σ1,H1,I1,q1⟩=>?_)
  exact h2 pins s1 σ1 H1 _ _ Q I1 rr q1
def bZ3 (K:PySem.W.Frag) (n:Nat) (t:TGs):TG:=fun v σ H Q=>∃ a xs,v= .ref a/\aX K H a xs/\xs.length=n/\t xs σ H Q
theorem fE {es:List Expr}{k:Nat}{t:TGs}{n:Nat}(hc:X.calm=true) (h:PGs X es t)
  (hn:(assignEach es X.env).length=n:=by rfl) (hst:(assignEach es X.env).findIdx? (·.1)=none:=by rfl):PG X (.Tuple es k pos) (bZ3 X.K n t):=by
 intro pins s σ H v u Q I r hw
 obtain ⟨a,xs,e1,hq,hl,hw⟩:=hw
 subst e1
 cases r
 obtain ⟨its,rv,ht,hz⟩:=I.tuple hq
 refine assign_Tuple_tuple (I.ok.hd hc) ht (by simp [hn, <- hl,rv.length]) hst fun h' hx=>?_
 have I1:bG X pins σ H { s with heap:=h' }:=I.kept (t':=s.toks) fun b o e=>hx b o (Nat.ne_of_lt (Heap.lt_size e)) e
 exact h pins _ σ H xs _ Q I1 (by simpa using rv) hw
def bX0 (te:TE) (g:TG):TS:=fun D σ H=>te σ H fun x H1=>g x σ H1 D.nx
theorem fP {tg e:Expr}{te:TE}{g:TG}(he:PE X e te) (hg:PG X tg g) (hs:swapsWithSole [tg] e pos.line X.env=pure false:=by rfl) (hw:swappedStores [tg] e X.env=pure none:=by rfl)
  (h1:(assignEach [tg] X.env).map (·.2)=[assign tg X.env]:=by rfl):PS X (.Assign [tg] e pos) (bX0 te g):=by
 intro pins s σ H D I h
 refine wpAny_Assign_stores (dQ (he pins s σ H _ I h) fun v s1 ⟨x,H1,I1,r1,q1⟩=>?_) hs hw
 rw [h1]
 exact dQ (hg pins s1 σ H1 x v _ I1 r1 q1) fun _ s2 q=>q
theorem aK {i:Nat}{x:Str}{e:Expr}{te:TE}{pos':Pos}(hN:X.N.Nodup) (hi:X.N[i]?=some x) (hx:Loc X.env.scope x) (he:PE X e te) (hs:swapsWith e (some (.Name x pos')) pos.line X.env=pure false:=by rfl) (hf:X.fn x=true\/X.env.scope.names.lookup x=some .local:=by first | exact .inl rfl | exact .inr rfl | assumption) :
  PS X (.Assign [.Name x pos'] e pos) (bX0 te (aB5 i)):=by
 intro pins s σ H D I h
 refine wpAny_Assign_Name (dQ (he pins s σ H _ I h) fun v s1 ⟨y,H1,I1,r1,q1⟩=>?_) hs
 exact kC I1 hN hi hx r1 (fun s2 I2=>⟨_,H1,I2,q1⟩) hf
def cH9 (i j:Nat) (ta:TA):TS:=fun D σ H=>ta σ H fun vs H1=>∃ v w,vs=[v,w]/\D.nx ((σ.set i (some v)).set j (some w)) H1
theorem bN4 {i j:Nat}{x y:Str}{a b:Expr}{ta:TA}{px py pt:Pos}{kt k2 pt2} (hc:X.calm=true) (hN:X.N.Nodup) (hi:X.N[i]?=some x) (hj:X.N[j]?=some y) (hij:i≠j)
  (hx:X.env.scope.names.lookup x=some .local) (hy:X.env.scope.names.lookup y=some .local) (ha:PA X [a,b] ta)
  (hw:swappedStores [.Tuple [.Name x px,.Name y py] kt pt] (.Tuple [a,b] k2 pt2) X.env=pure (some [x,y]))
  (hs:swapsWithSole [.Tuple [.Name x px,.Name y py] kt pt] (.Tuple [a,b] k2 pt2) pos.line X.env=pure false:=by rfl) :
  PS X (.Assign [.Tuple [.Name x px,.Name y py] kt pt] (.Tuple [a,b] k2 pt2) pos) (cH9 i j ta):=by
 intro pins s σ H D I h
 rw [exec_Assign_arm]
 refine wpAny_bind (wpAny_standAt ?_)
 rw [hs]
 refine wpAny_bind (wpAny_pure ?_)
 rw [if_neg (by decide)]
 refine wpAny_bind (Tuple_ (dQ (ha _ pins s σ H _ I h) fun us s1 ⟨vs,H1,I1,r1,q1⟩=>?_))
 obtain ⟨v,w,e1,q1⟩:=q1
 subst e1
 obtain ⟨u1,u2,rfl,rv,rw'⟩:∃ u1 u2,us=[u1,u2]/\bX v u1/\bX w u2:=by
  cases r1 with
  | cons p q =>
   cases q with
   | cons p' q' =>
    cases q'
    exact ⟨_,_,rfl,p,p'⟩
 refine wpAny_newObj_type ?_ (by show 2<=sizeLine;decide)
 have I2:bG X pins σ H1 { s1 with heap:=s1.heap.push { cls:= .type "tuple",data:= .seq [u1,u2].toArray } }:=I1.kept (t':=s1.toks) fun b o e=>Heap.get?_push_of_some _ e
 rw [hw]
 refine wpAny_bind (wpAny_pure ?_)
 show wpAny (model X.prog X.w) X.A (do rule "assign.swapped-stores";let items <- unpackItems (.ref s1.heap.objs.size) 2 none;assignInOrder [fun v=>bindName X.env y v,fun v=>bindName X.env x v] items.reverse;pure Flow.next) _ _ _
 refine wpAny_bind (wpAny_rule (wpAny_bind (unpackItems_tuple (items:= #[u1,u2]) (I.ok.hd hc) (IsTup.new s1.heap _) fun h' hx'=>?_)))
 have I3:=I2.kept (h':=h') (t':=s1.toks) fun b o e=>hx' b o (Nat.ne_of_lt (Heap.lt_size e)) e
 show wpAny _ _ (assignInOrder [fun v=>bindName X.env y v,fun v=>bindName X.env x v] [u2,u1] >>= fun _=>pure Flow.next) _ _ _
 refine wpAny_bind (assignInOrder_cons (wpAny_bindName (kC I3 hN hj (.inl hy) rw' (fun s2 I4=>?_) (.inr hy))))
 refine assignInOrder_cons (wpAny_bindName (kC I4 hN hi (.inl hx) rv (fun s3 I5=>assignInOrder_nil (wpAny_pure ?_)) (.inr hx)))
 rw [List.set_comm _ _ (Ne.symm hij)] at I5
 exact ⟨_,H1,I5,q1⟩
def cG5 (i:Nat) (te:TE) (ti:TIp):TS:=fun D σ H=>∃ x,σ[i]?=some (some x)/\te σ H fun y H1=>ti x y H1 fun z H2=>D.nx (σ.set i (some z)) H2
theorem bM6 {i:Nat}{x:Str}{e:Expr}{te:TE}{op:Operator}{ti:TIp}{pos':Pos}(hN:X.N.Nodup) (hi:X.N[i]?=some x) (hx:Loc X.env.scope x) (he:PE X e te) (ho:PIp X op ti) (hf:X.fn x=true\/X.env.scope.names.lookup x=some .local:=by first | exact .inl rfl | exact .inr rfl | assumption) :
  PS X (.AugAssign (.Name x pos') op e pos) (cG5 i te ti):=by
 intro pins s σ H D I h
 obtain ⟨v,e1,h⟩:=h
 obtain ⟨m,hn,hl⟩:=I.loc
 have vis:Vis X.env.scope x:=by rcases hx with k | k;exact .inl k;exact .inr (.inl k)
 obtain ⟨u,r,l⟩:=hl i x v hi e1 vis
 refine wpAny_AugAssign_Name ?_
 have go:wpAny (model X.prog X.w) X.A (eval e X.env) (fun w s₂=>wpAny (model X.prog X.w) X.A (inplaceOp op u w) (fun r s₃=>wpAny (model X.prog X.w) X.A (storeName X.env x r) (fun _=>SP X pins D .next) X.xe s₃) X.xe s₂) X.xe s:=by
  refine dQ (he pins s σ H _ I h) fun w s1 ⟨y,H1,I1,r1,q1⟩=>?_
  refine dQ (ho pins s1 σ H1 v y u w _ I1 r r1 q1) fun z s2 ⟨zv,H2,I2,r2,q2⟩=>?_
  exact kC I2 hN hi hx r2 (fun s3 I3=>⟨_,H2,I3,q2⟩) hf
 rcases l with ⟨hk,hm⟩ | ⟨hk,c,hc,hcell⟩
 ·exact wpAny_loadName_local I.ok.kind hk hn hm go
 ·rcases hk with hk | hk
  ·exact wpAny_loadName_cell I.ok.kind hk hc hcell go
  ·rcases hx with k | k
   ·have:X.env.scope.names.lookup x=some .free:=hk
    rw [k] at this;cases this
   ·have:X.env.scope.names.lookup x=some .free:=hk
    rw [k] at this;cases this
def ipI (f:Int->Int->Int):TIp:=fun x y H Q=>∃ i j,x= .int i/\y= .int j/\Q (.int (f i j)) H
theorem bM1:PIp X .Add (ipI fun i j=>i+j):=by
 intro pins s σ H x y v u Q I r1 r2 h
 obtain ⟨i,j,e1,e2,q⟩:=h
 subst e1;subst e2
 obtain ⟨t,rfl⟩:=r1
 obtain ⟨t',rfl⟩:=r2
 exact iadd_int ⟨.int _,H,I.tok _,⟨_,rfl⟩,q⟩
def bS2 (c:TT) (tb:TS):TS:=fun D σ H=>∃ W:Nat->St->Hp->Prop,(∃ m,W m σ H)/\∀ m σ H,W m σ H ->
 c σ H fun b H1=>if b=true then ∃ N:St->Hp->Prop,(∀ σ' H',N σ' H'->∃ m',m' < m/\W m' σ' H')/\tb { D with nx:=N,ct:=N,bk:=D.nx } σ H1 else D.nx σ H1
theorem fK {c:Expr}{body:List Stmt}{tc:TT}{tb:TS}(hp:PassesOwn (model X.prog X.w) X.A X.env X.xe) (hc:PT X c tc) (hb:PSs X body tb):PS X (.While c body [] pos) (bS2 tc tb):=by
 intro pins s σ H D I h
 obtain ⟨W,⟨m0,w0⟩,turn⟩:=h
 refine wpAny_While (codeAny_whileLoop (fun n s'=>∃ σ' H',bG X pins σ' H' s'/\W n σ' H') ?_ m0 ⟨σ,H,I,w0⟩)
 rintro n s1 ⟨σ1,H1,I1,w1⟩
 refine wpAny_passesOwn hp (dQ (hc pins s1 σ1 H1 _ I1 (turn n σ1 H1 w1)) fun b s2 ⟨H2,I2,q2⟩=>?_)
 cases b with
 | true =>
  obtain ⟨N,hN,q2⟩:=q2
  rw [if_pos rfl]
  refine wpAny_passesOwn hp (dQ (hb pins s2 σ1 H2 _ I2 q2) fun f s3 q3=>?_)
  cases f with
  | next =>
   obtain ⟨σ3,H3,I3,n3⟩:=q3
   obtain ⟨m',hm,w3⟩:=hN σ3 H3 n3
   exact ⟨m',hm,σ3,H3,I3,w3⟩
  | cont =>
   obtain ⟨σ3,H3,I3,n3⟩:=q3
   obtain ⟨m',hm,w3⟩:=hN σ3 H3 n3
   exact ⟨m',hm,σ3,H3,I3,w3⟩
  | brk=>exact q3
  | ret v=>exact q3
 | false =>
  rw [if_neg Bool.false_ne_true]
  exact wpAny_execs_nil ⟨σ1,H2,I2,q2⟩
end
structure It where
 go:Nat->Hp->Prop
 yld:Nat->Hp->V->Hp->Prop
 stop:Nat->Hp->Prop
def mI (X:Cx) (pins:List (Addr×Obj)) (H:Hp) (b:Addr):Prop :=
 H b=none/\b≠X.env.locals/\b∉X.fs/\(b∈X.ex\/X.s₀.heap.objs.size<=b)/\(∀ x c,X.env.cells.lookup x=some c->c≠b)/\∀ p∈X.pn++pins,p.1≠b
theorem bG.fpOk {X:Cx}{pins:List (Addr×Obj)}{σ: St}{H H':Hp}{s:Shared}{b:Addr}(I:bG X pins σ H s) (hb:s.heap.objs.size<=b) (hn:H' b=none):mI X pins H' b:=by
 refine ⟨hn,Nat.ne_of_gt (Nat.lt_of_lt_of_le I.lt hb),I.nofs hb,.inr (Nat.le_trans I.sz hb),fun x c e z=>?_,fun p hp z=>?_⟩
 ·obtain ⟨v,q⟩:=I.cell x c e
  exact absurd (Nat.lt_of_lt_of_le q.lt (by rw [z];exact hb)) (Nat.lt_irrefl _)
 ·exact absurd (Nat.lt_of_lt_of_le (Heap.lt_size (I.pin p hp).1) (by rw [z];exact hb)) (Nat.lt_irrefl _)
structure aP3 (P:Program) (w:World) (K:PySem.W.Frag) (tg:Expr) (J:It) (fp:List Addr) (it:Addr) (tn:Nat->Heap->Prop):Prop where
 mem:it∈fp
 obj:∀ i h,tn i h->∀ b∈fp,∃ o,h.get? b=some o/\∀ v,o.data≠ .cell v
 keep:∀ i h h',tn i h->(∀ b∈fp,∀ o,h.get? b=some o->h'.get? b=some o)->tn i h'
 item:∀ (X:Cx),X.prog=P->X.w=w->X.K=K->X.calm=true->∀ (i:Nat) (pins:List (Addr×Obj)) (s:Shared) (σ: St) (H:Hp) (E:Value->Shared->Prop),bG X pins σ H s->(∀ b∈fp,mI X pins H b)->tn i s.heap->J.go i H ->
  wpAny (model P w) X.A (pyNext (.ref it)) (fun r s1=>∃ u,r=some u /\
   wpAny (model P w) X.A (letOwnedTupleGo tg (.ref it) u) (fun _ s2=>∃ x H',bG X pins σ H' s2/\bX x u/\J.yld i H x H'/\tn (i+1) s2.heap/\∀ b∈fp,H' b=none) E s1) E s
 done:∀ (X:Cx),X.prog=P->X.w=w->X.K=K->X.calm=true->∀ (i:Nat) (pins:List (Addr×Obj)) (s:Shared) (σ: St) (H:Hp) (E:Value->Shared->Prop),bG X pins σ H s->(∀ b∈fp,mI X pins H b)->tn i s.heap->J.stop i H ->
  wpAny (model P w) X.A (pyNext (.ref it)) (fun r s1=>r=none/\bG X pins σ H s1) E s
 self:∀ (A:Around) (i:Nat) (s:Shared) (Q:Value->Shared->Prop) (E:Value->Shared->Prop),tn i s.heap->Q (.ref it) s->wpAny (model P w) A (pyIter (.ref it)) Q E s
abbrev TI:=St->Hp->(It->Hp->Prop)->Prop
def PIE (X:Cx) (pins:List (Addr×Obj)) (σ: St) (tg:Expr) (R:It->Hp->Prop) (itv:Value) (s2:Shared):Prop :=
 ∃ (it:Addr) (fp:List Addr) (tn:Nat->Heap->Prop) (J:It) (H':Hp),itv= .ref it/\bG X pins σ H' s2/\aP3 X.prog X.w X.K tg J fp it tn/\tn 0 s2.heap/\(∀ b∈fp,mI X pins H' b)/\R J H'
def PI (X:Cx) (tg iter:Expr) (wi:TI):Prop :=
 ∀ (pins:List (Addr×Obj)) (s:Shared) (σ: St) (H:Hp) (R:It->Hp->Prop),bG X pins σ H s->wi σ H R ->
  wpAny (model X.prog X.w) X.A (eval iter X.env) (fun v s1=>wpAny (model X.prog X.w) X.A (pyIter v) (PIE X pins σ tg R) X.xe s1) X.xe s
theorem go_of {M : Model}{A : Around}{E : Value -> Shared -> Prop}{s : Shared}{tg : Expr}{it : Addr}{u : Value}{o : Obj}{n : String}{vs : Array Value}{Q : Unit -> Shared -> Prop}(ho : s.heap.get? it = some o) (hc : o.cls = .type n) (hd : o.data = .fields vs)
    (hn : ["enumerate", "zip", "dict_itemiterator", "dict_reverseitemiterator", "odict_iterator", "itertools.zip_longest", "itertools.pairwise"].contains n = false) (hQ : Q () s) : wpAny M A (letOwnedTupleGo tg (.ref it) u) Q E s := by
  unfold letOwnedTupleGo
  cases tg <;> first
    | exact wpAny_pure hQ
    | (cases u <;> first
        | exact wpAny_pure hQ
        | (refine wpAny_bind (wpAny_load ho ?_)
           rw [hc, hd]
           show wpAny M A (if (["enumerate", "zip", "dict_itemiterator", "dict_reverseitemiterator", "odict_iterator", "itertools.zip_longest", "itertools.pairwise"].contains n && vs[0]? == some (rawInt _)) = true then _ else _) Q E s
           rw [if_neg (by intro h; rw [hn, Bool.false_and] at h; cases h)]
           exact wpAny_pure hQ))
def Itl (K:PySem.W.Frag) (a:Addr):It :=
 ⟨fun i H=>∃ xs x,bN K H a xs/\xs[i]?=some x,fun i H x H'=>H'=H/\∀ xs,bN K H a xs->xs[i]?=some x,fun i H=>∃ xs,bN K H a xs/\xs.length<=i⟩
def Itt (K:PySem.W.Frag) (a:Addr):It :=
 ⟨fun i H=>∃ xs x,aX K H a xs/\xs[i]?=some x,fun i H x H'=>H'=H/\∀ xs,aX K H a xs->xs[i]?=some x,fun i H=>∃ xs,aX K H a xs/\xs.length<=i⟩
def Itr (lo:Int) (n:Nat):It:=⟨fun i _=>i < n,fun i H x H'=>H'=H/\x= .int (lo+i),fun i _=>n<=i⟩
theorem aP2 {P:Program}{w:World}{K:PySem.W.Frag}{tg:Expr}(a it:Addr):aP3 P w K tg (Itl K a) [it] it (fun i h=>h.IsListIter it a i) where
 mem:=by simp
 obj:=fun i h st b hb=>by
  have e:b=it:=by simpa using hb
  subst e
  obtain ⟨o,e,c,d⟩:=st
  exact ⟨o,e,fun v z=>by rw [d] at z;cases z⟩
 keep:=fun i h h' st k=>st.at fun o e=>k it (by simp) o e
 item:=by
  intro X hP hw hK hc i pins s σ H E I hf st hg
  subst hP hw hK
  obtain ⟨xs,x,hq,hx⟩:=hg
  obtain ⟨its,rv,p,hz⟩:=I.list hq
  obtain ⟨u,hu,ru⟩:=rv.get hx
  obtain ⟨f0,f1,f2,f3,f4,f5⟩:=hf it (by simp)
  refine wpAny_pyNext_list_item st p.isList (x:=u) (by simpa using hu) fun h' st' sb=>?_
  have I1:bG X pins σ H { s with heap:=h' }:=I.turned (t':=s.toks) (fun b o hb e=>(sb.2 b hb).trans e) f0 f1 f3 f4 f5
  obtain ⟨o,e,c,d⟩:=id st'
  exact ⟨u,rfl,go_of (s:={ s with heap:=h' }) e c d (by decide) ⟨x,H,I1,ru,⟨rfl,fun ys hy=>by rw [I.list_inj hy hq];exact hx⟩,st',fun b hb=>(hf b hb).1⟩⟩
 done:=by
  intro X hP hw hK hc i pins s σ H E I hf st hg
  subst hP hw hK
  obtain ⟨xs,hq,hx⟩:=hg
  obtain ⟨its,rv,p,hz⟩:=I.list hq
  obtain ⟨f0,f1,f2,f3,f4,f5⟩:=hf it (by simp)
  have hl:=rv.length
  exact wpAny_pyNext_list_end (I.ok.hd hc) st p.isList (by simp;omega) fun h' eb=>⟨rfl,I.turned (t':=s.toks) (fun b o hb e=>eb b o hb e) f0 f1 f3 f4 f5⟩
 self:=fun _ _ _ _ _ st h=>wpAny_pyIter_listiter st h
theorem zG {P:Program}{w:World}{K:PySem.W.Frag}{tg:Expr}(a it:Addr):aP3 P w K tg (Itt K a) [it] it (fun i h=>h.IsTupleIter it a i) where
 mem:=by simp
 obj:=fun i h st b hb=>by
  have e:b=it:=by simpa using hb
  subst e
  obtain ⟨o,e,c,d⟩:=st
  exact ⟨o,e,fun v z=>by rw [d] at z;cases z⟩
 keep:=fun i h h' st k=>st.at fun o e=>k it (by simp) o e
 item:=by
  intro X hP hw hK hc i pins s σ H E I hf st hg
  subst hP hw hK
  obtain ⟨xs,x,hq,hx⟩:=hg
  obtain ⟨its,rv,p,hz⟩:=I.tuple hq
  obtain ⟨u,hu,ru⟩:=rv.get hx
  obtain ⟨f0,f1,f2,f3,f4,f5⟩:=hf it (by simp)
  refine wpAny_pyNext_tuple_item st (show s.heap.IsTuple a its.toArray from p) (x:=u) (by simpa using hu) fun h' st' sb=>?_
  have I1:bG X pins σ H { s with heap:=h' }:=I.turned (t':=s.toks) (fun b o hb e=>(sb.2 b hb).trans e) f0 f1 f3 f4 f5
  obtain ⟨o,e,c,d⟩:=id st'
  exact ⟨u,rfl,go_of (s:={ s with heap:=h' }) e c d (by decide) ⟨x,H,I1,ru,⟨rfl,fun ys hy=>by rw [I.tuple_inj hy hq];exact hx⟩,st',fun b hb=>(hf b hb).1⟩⟩
 done:=by
  intro X hP hw hK hc i pins s σ H E I hf st hg
  subst hP hw hK
  obtain ⟨xs,hq,hx⟩:=hg
  obtain ⟨its,rv,p,hz⟩:=I.tuple hq
  obtain ⟨f0,f1,f2,f3,f4,f5⟩:=hf it (by simp)
  have hl:=rv.length
  exact wpAny_pyNext_tuple_end (I.ok.hd hc) st (show s.heap.IsTuple a its.toArray from p) (by simp;omega) fun h' eb=>⟨rfl,I.turned (t':=s.toks) (fun b o hb e=>eb b o hb e) f0 f1 f3 f4 f5⟩
 self:=fun _ _ _ _ _ st h=>wpAny_pyIter_tupleiter st h
theorem yJ {P:Program}{w:World}{K:PySem.W.Frag}{tg:Expr}(it:Addr) (lo:Int) (n:Nat):aP3 P w K tg (Itr lo n) [it] it (fun i h=>IsRangeIter h it (lo+(i:Nat) * 1) ((n:Int) - (i:Nat)) 1) where
 mem:=by simp
 obj:=fun i h st b hb=>by
  have e:b=it:=by simpa using hb
  subst e
  exact ⟨_,st,fun v z=>by
   have z':Data.fields _=Data.cell v:=z
   cases z'⟩
 keep:=fun i h h' st k=>k it (by simp) _ st
 item:=by
  intro X hP hw hK hc i pins s σ H E I hf st hg
  subst hP hw hK
  obtain ⟨f0,f1,f2,f3,f4,f5⟩:=hf it (by simp)
  have W:=Walks.range (prog:=X.prog) (w:=X.w) (I.ok.hd hc) it lo 1 n
  refine W.item i s _ _ hg st fun v h' tk hv st' kk=>?_
  obtain ⟨t,rfl⟩:=hv
  have I1:bG X pins σ H { s with heap:=h',toks:=tk }:=I.turned (fun b o hb e=>kk b o (by simpa using hb) e) f0 f1 f3 f4 f5
  refine ⟨_,rfl,go_of (s:={ s with heap:=h',toks:=tk }) (n:="range_iterator") st' rfl rfl (by decide) ⟨.int (lo+i),H,I1,⟨t,?_⟩,⟨rfl,rfl⟩,st',fun b hb=>(hf b hb).1⟩⟩
  rw [Int.mul_one]
 done:=by
  intro X hP hw hK hc i pins s σ H E I hf st hg
  subst hP hw hK
  obtain ⟨f0,f1,f2,f3,f4,f5⟩:=hf it (by simp)
  exact wpAny_pyNext_range_end (I.ok.hd hc) st (by have:n<=i:=hg;omega) fun h' eb=>⟨rfl,I.turned (t':=s.toks) (fun b o hb e=>eb b o hb e) f0 f1 f3 f4 f5⟩
 self:=fun _ _ _ _ _ st h=>wpAny_pyIter_rangeiter st h
section
variable {X:Cx}{tg:Expr}
def bJ0 (K:PySem.W.Frag) (tl:TE):TI:=fun σ H R=>tl σ H fun x H1=>∃ a,x= .ref a/\(∃ xs,bN K H1 a xs)/\R (Itl K a) H1
def cF8 (K:PySem.W.Frag) (tl:TE):TI:=fun σ H R=>tl σ H fun x H1=>∃ a,x= .ref a/\(∃ xs,aX K H1 a xs)/\R (Itt K a) H1
theorem dC {l:Expr}{tl:TE}(hl:PE X l tl):PI X tg l (bJ0 X.K tl):=by
 intro pins s σ H R I h
 refine dQ (hl pins s σ H _ I h) fun v s1 ⟨x,H1,I1,r1,q1⟩=>?_
 obtain ⟨a,e,⟨xs,hq⟩,q⟩:=q1
 subst e
 cases r1
 obtain ⟨its,rv,p,hz⟩:=I1.list hq
 refine wpAny_pyIter_list p.isList ?_
 refine ⟨s1.heap.objs.size,[s1.heap.objs.size],_,_,H1,rfl,I1.kept (t':=s1.toks) fun b o e=>Heap.get?_push_of_some _ e,aP2 a _,⟨_,Heap.get?_push_size _ rfl,rfl,rfl⟩,fun b hb=>?_,q⟩
 have e:b=s1.heap.objs.size:=by simpa using hb
 subst e
 exact I1.fpOk (Nat.le_refl _) (I1.hok.fresh (Nat.le_refl _))
theorem mX {l:Expr}{tl:TE}(hl:PE X l tl):PI X tg l (cF8 X.K tl):=by
 intro pins s σ H R I h
 refine dQ (hl pins s σ H _ I h) fun v s1 ⟨x,H1,I1,r1,q1⟩=>?_
 obtain ⟨a,e,⟨xs,hq⟩,q⟩:=q1
 subst e
 cases r1
 obtain ⟨its,rv,p,hz⟩:=I1.tuple hq
 refine wpAny_pyIter_tuple (show s1.heap.IsTuple a its.toArray from p) ?_
 refine ⟨s1.heap.objs.size,[s1.heap.objs.size],_,_,H1,rfl,I1.kept (t':=s1.toks) fun b o e=>Heap.get?_push_of_some _ e,zG a _,⟨_,Heap.get?_push_size _ rfl,rfl,rfl⟩,fun b hb=>?_,q⟩
 have e:b=s1.heap.objs.size:=by simpa using hb
 subst e
 exact I1.fpOk (Nat.le_refl _) (I1.hok.fresh (Nat.le_refl _))
theorem aY7 {pins:List (Addr×Obj)}{σ: St}{H:Hp}{s:Shared}{R:It->Hp->Prop}{E:Value->Shared->Prop}{lo hi:Int}{t u v:Tok}{tk:Nat}(I:bG X pins σ H s) (h1: -(2 ^ 62)<=lo) (h2:lo < 2 ^ 62) (h3: -(2 ^ 62)<=hi) (h4:hi < 2 ^ 62)
  (q:R (Itr lo (hi - lo).toNat) H):wpAny (model X.prog X.w) X.A (pyIter (.ref s.heap.objs.size)) (PIE X pins σ tg R) E { s with heap:=s.heap.push { cls:= .type "range",data:= .fields #[.int lo t,.int hi u,.int 1 v] },toks:=tk }:=by
 refine wpAny_pyIter_range (IsRange.new ..) (small_one h1 h2 h3 h4) ?_
 have I1:bG X pins σ H { s with heap:=s.heap.push { cls:= .type "range",data:= .fields #[.int lo t,.int hi u,.int 1 v] },toks:=tk }:=I.kept fun b o e=>Heap.get?_push_of_some _ e
 refine ⟨(s.heap.push { cls:= .type "range",data:= .fields #[.int lo t,.int hi u,.int 1 v] }).objs.size,[(s.heap.push { cls:= .type "range",data:= .fields #[.int lo t,.int hi u,.int 1 v] }).objs.size],_,_,H,rfl,
  I1.kept (t':=tk) fun b o e=>Heap.get?_push_of_some _ e,yJ _ lo (hi - lo).toNat,?_,fun b hb=>?_,q⟩
 ·have e1:lo+((0:Nat):Int) * 1=lo:=by simp
  have e2:(((hi - lo).toNat:Nat):Int) - ((0:Nat):Int)=Builtin.Range.rangeSize lo hi 1:=by rw [rangeSize_one];split <;> omega
  show IsRangeIter _ _ (lo+((0:Nat):Int) * 1) ((((hi - lo).toNat:Nat):Int) - ((0:Nat):Int)) 1
  rw [e1,e2]
  exact Heap.get?_push_size _ rfl
 ·have e:b=(s.heap.push { cls:= .type "range",data:= .fields #[.int lo t,.int hi u,.int 1 v] }).objs.size:=by simpa using hb
  subst e
  exact I1.fpOk (Nat.le_refl _) (I1.hok.fresh (Nat.le_refl _))
def bY5 (ta:TA):TI:=fun σ H R=>ta σ H fun vs H1=>∃ j:Int,vs=[.int j]/\ -(2 ^ 62)<=j/\j < 2 ^ 62/\R (Itr 0 j.toNat) H1
theorem cY {a:Expr}{ta:TA}{p pos:Pos}(hg:Gl X "range") (hm:X.mg "range"=none) (ha:PA X [a] ta) (hs:starEach [a] X.env=[(false,eval a X.env)]:=by rfl):PI X tg (.Call (.Name "range" p) [a] [] pos) (bY5 ta):=by
 intro pins s σ H R I h
 refine Call_ (jL I hg hm boot_range (PyProof.Rows.callWith_type1 (dQ (ha pos pins s σ H _ I h) fun us s1 ⟨vs,H1,I1,r1,q1⟩=>?_) hs rfl))
 obtain ⟨j,e,q1,q2,q⟩:=q1
 subst e
 cases r1 with
 | cons r rr =>
  cases rr
  obtain ⟨t,rfl⟩:=r
  exact call_range_1 (aY7 I1 (by omega) (by omega) q1 q2 (by simpa using q))
def cF7 (wi:TI) (g:TG) (tb:TS):TS:=fun D σ H=>wi σ H fun J H1=>∃ W:Nat->Nat->St->Hp->Prop,(∃ m,W 0 m σ H1)/\∀ i m σ H,W i m σ H ->
 (J.stop i H/\D.nx σ H)\/(J.go i H/\∃ N:St->Hp->Prop,(∀ σ' H',N σ' H'->∃ m',m' < m/\W (i+1) m' σ' H')/\∀ x H',J.yld i H x H'->g x σ H' fun σ2 H2=>tb { D with nx:=N,ct:=N,bk:=D.nx } σ2 H2)
def iD (fp:List Addr) (h:Heap):List (Addr×Obj):=fp.filterMap fun b=>(h.get? b).map fun o=>(b,o)
theorem iA {fp:List Addr}{h:Heap}{b:Addr}{o:Obj}(hb:b∈fp) (e:h.get? b=some o):(b,o)∈iD fp h:=List.mem_filterMap.mpr ⟨b,hb,by rw [e];rfl⟩
theorem sX {fp:List Addr}{h:Heap}{p:Addr×Obj}(hp:p∈iD fp h):p.1∈fp/\h.get? p.1=some p.2:=by
 obtain ⟨b,hb,e⟩:=List.mem_filterMap.mp hp
 cases q:h.get? b with
 | none=>rw [q] at e;cases e
 | some o =>
  rw [q] at e
  have e':(b,o)=p:=Option.some.inj e
  subst e'
  exact ⟨hb,q⟩
theorem bG.pinned {pins:List (Addr×Obj)}{σ: St}{H:Hp}{s:Shared}{fp:List Addr}(I:bG X pins σ H s) (hf:∀ b∈fp,mI X pins H b) (ho:∀ b∈fp,∃ o,s.heap.get? b=some o/\∀ v,o.data≠ .cell v):bG X (pins++iD fp s.heap) σ H s :=
 I.pins_of fun p hp=>(List.mem_append.mp hp).elim (fun z=>I.pin p (List.mem_append_right _ z)) fun z=>by
  obtain ⟨hb,e⟩:=sX z
  obtain ⟨f0,f1,f2,_⟩:=hf p.1 hb
  obtain ⟨o,e',d⟩:=ho p.1 hb
  rw [e] at e';cases e'
  exact ⟨e,f0,f1,f2,d⟩
theorem bG.unpinned {pins pl:List (Addr×Obj)}{σ: St}{H:Hp}{s:Shared}(I:bG X (pins++pl) σ H s):bG X pins σ H s:=I.pins_of fun p hp=>I.pin p (List.mem_append_right _ (List.mem_append_left _ hp))
theorem dN {iter:Expr}{body:List Stmt}{wi:TI}{g:TG}{tb:TS}{pos:Pos}(hp:PassesOwn (model X.prog X.w) X.A X.env X.xe) (hc:X.calm=true) (hi:PI X tg iter wi) (hg:PG X tg g) (hb:PSs X body tb)
  (hs:∀ x,foldedSetIterable iter X.env x=pure x:=by intro _;rfl):PS X (.For tg iter body [] pos) (cF7 wi g tb):=by
 intro pins s σ H D I h
 refine wpAny_For (dQ (hi pins s σ H _ I h) fun v s1 h1=>dQ h1 fun itv s2 h2=>?_) hs
 obtain ⟨it,fp,tn,J,H2,e,I2,T,st2,f2,W,⟨m0,w0⟩,turn⟩:=h2
 subst e
 have stat:∀ {H':Hp},(∀ b∈fp,H' b=none)->∀ b∈fp,mI X pins H' b:=fun hn b hb=>⟨hn b hb,(f2 b hb).2⟩
 refine codeAny_forLoop_any (fun n s'=>∃ i σ' H',bG X pins σ' H' s'/\tn i s'.heap/\(∀ b∈fp,H' b=none)/\W i n σ' H') ?_ m0 ⟨0,σ,H2,I2,st2,fun b hb=>(f2 b hb).1,w0⟩
 rintro n s3 ⟨i,σ3,H3,I3,st3,fr3,w3⟩
 rcases turn i n σ3 H3 w3 with ⟨stop,qn⟩ | ⟨go,N,hN,step⟩
 ·refine wpAny_passesOwn hp (dQ (T.done X rfl rfl rfl hc i pins s3 σ3 H3 X.xe I3 (stat fr3) st3 stop) fun r s4 ⟨hr,I4⟩=>?_)
  subst hr
  exact wpAny_execs_nil ⟨σ3,H3,I4,qn⟩
 ·refine wpAny_passesOwn hp (dQ (T.item X rfl rfl rfl hc i pins s3 σ3 H3 X.xe I3 (stat fr3) st3 go) fun r s4 ⟨u,hr,h4⟩=>?_)
  subst hr
  refine wpAny_passesOwn hp (dQ h4 fun _ s5 ⟨x,H5,I5,r5,y5,st5,fr5⟩=>?_)
  have I5':=I5.pinned (stat fr5) (T.obj _ _ st5)
  refine wpAny_passesOwn hp (dQ (hg _ s5 σ3 H5 x u _ I5' r5 (step x H5 y5)) fun _ s6 ⟨σ6,H6,I6,q6⟩=>?_)
  refine wpAny_passesOwn hp (dQ (hb _ s6 σ6 H6 _ I6 q6) fun f s7 q7=>?_)
  have again:∀ {σ7:St}{H7:Hp},bG X (pins++iD fp s5.heap) σ7 H7 s7->N σ7 H7->∃ m,m < n/\∃ i σ' H',bG X pins σ' H' s7/\tn i s7.heap/\(∀ b∈fp,H' b=none)/\W i m σ' H':=fun {σ7 H7} I7 n7=>by
   obtain ⟨m',hm,w7⟩:=hN σ7 H7 n7
   refine ⟨m',hm,i+1,σ7,H7,I7.unpinned,T.keep _ _ _ st5 fun b hb o e=>(I7.pin (b,o) (List.mem_append_right _ (List.mem_append_right _ (iA hb e)))).1,fun b hb=>?_,w7⟩
   obtain ⟨o,e,d⟩:=T.obj _ _ st5 b hb
   exact (I7.pin (b,o) (List.mem_append_right _ (List.mem_append_right _ (iA hb e)))).2.1
  cases f with
  | next=>obtain ⟨σ7,H7,I7,n7⟩:=q7;exact again I7 n7
  | cont=>obtain ⟨σ7,H7,I7,n7⟩:=q7;exact again I7 n7
  | brk=>obtain ⟨σ7,H7,I7,q7⟩:=q7;exact ⟨σ7,H7,I7.unpinned,q7⟩
  | ret v=>obtain ⟨x7,σ7,H7,I7,r7,q7⟩:=q7;exact ⟨x7,σ7,H7,I7.unpinned,r7,q7⟩
end
theorem xD {K:PySem.W.Frag}{a:Addr}{xs:List V}{g:TG}{tb:TS}{D:lE}{σ: St}{H:Hp}(Pv:Nat->St->Hp->Prop) (h0:Pv 0 σ H) (hl:∀ i σ H,i<=xs.length->Pv i σ H->bN K H a xs)
  (hs:∀ i x σ H,xs[i]?=some x->Pv i σ H->g x σ H fun σ2 H2=>tb { D with nx:=Pv (i+1),ct:=Pv (i+1),bk:=D.nx } σ2 H2) (hd:∀ σ H,Pv xs.length σ H->D.nx σ H) :
  ∃ W:Nat->Nat->St->Hp->Prop,(∃ m,W 0 m σ H)/\∀ i m σ H,W i m σ H ->
   ((Itl K a).stop i H/\D.nx σ H)\/((Itl K a).go i H/\∃ N:St->Hp->Prop,(∀ σ' H',N σ' H'->∃ m',m' < m/\W (i+1) m' σ' H')/\∀ x H',(Itl K a).yld i H x H'->g x σ H' fun σ2 H2=>tb { D with nx:=N,ct:=N,bk:=D.nx } σ2 H2):=by
 refine ⟨fun i m σ H=>m=xs.length - i/\i<=xs.length/\Pv i σ H,⟨xs.length,by simp,Nat.zero_le _,h0⟩,?_⟩
 rintro i m σ H ⟨rfl,hi,p⟩
 have q:=hl i σ H hi p
 by_cases hlt:i < xs.length
 ·refine .inr ⟨⟨xs,xs[i],q,by simp [hlt]⟩,Pv (i+1),fun σ' H' p'=>⟨xs.length - (i+1),Nat.sub_lt_sub_left hlt (Nat.lt_succ_self i),rfl,hlt,p'⟩,fun x H' y=>?_⟩
  obtain ⟨e,y⟩:=y
  subst e
  exact hs i x σ _ (y xs q) p
 ·have e:i=xs.length:=by omega
  subst e
  exact .inl ⟨⟨xs,q,Nat.le_refl _⟩,hd σ H p⟩
theorem bD7 {K:PySem.W.Frag}{a:Addr}{xs:List V}{g:TG}{tb:TS}{D:lE}{σ: St}{H:Hp}(Pv:Nat->St->Hp->Prop) (h0:Pv 0 σ H) (hl:∀ i σ H,i<=xs.length->Pv i σ H->aX K H a xs)
  (hs:∀ i x σ H,xs[i]?=some x->Pv i σ H->g x σ H fun σ2 H2=>tb { D with nx:=Pv (i+1),ct:=Pv (i+1),bk:=D.nx } σ2 H2) (hd:∀ σ H,Pv xs.length σ H->D.nx σ H) :
  ∃ W:Nat->Nat->St->Hp->Prop,(∃ m,W 0 m σ H)/\∀ i m σ H,W i m σ H ->
   ((Itt K a).stop i H/\D.nx σ H)\/((Itt K a).go i H/\∃ N:St->Hp->Prop,(∀ σ' H',N σ' H'->∃ m',m' < m/\W (i+1) m' σ' H')/\∀ x H',(Itt K a).yld i H x H'->g x σ H' fun σ2 H2=>tb { D with nx:=N,ct:=N,bk:=D.nx } σ2 H2):=by
 refine ⟨fun i m σ H=>m=xs.length - i/\i<=xs.length/\Pv i σ H,⟨xs.length,by simp,Nat.zero_le _,h0⟩,?_⟩
 rintro i m σ H ⟨rfl,hi,p⟩
 have q:=hl i σ H hi p
 by_cases hlt:i < xs.length
 ·refine .inr ⟨⟨xs,xs[i],q,by simp [hlt]⟩,Pv (i+1),fun σ' H' p'=>⟨xs.length - (i+1),Nat.sub_lt_sub_left hlt (Nat.lt_succ_self i),rfl,hlt,p'⟩,fun x H' y=>?_⟩
  obtain ⟨e,y⟩:=y
  subst e
  exact hs i x σ _ (y xs q) p
 ·have e:i=xs.length:=by omega
  subst e
  exact .inl ⟨⟨xs,q,Nat.le_refl _⟩,hd σ H p⟩
theorem jD {lo:Int}{n:Nat}{g:TG}{tb:TS}{D:lE}{σ: St}{H:Hp}(Pv:Nat->St->Hp->Prop) (h0:Pv 0 σ H)
  (hs:∀ i σ H,i < n->Pv i σ H->g (.int (lo+i)) σ H fun σ2 H2=>tb { D with nx:=Pv (i+1),ct:=Pv (i+1),bk:=D.nx } σ2 H2) (hd:∀ σ H,Pv n σ H->D.nx σ H) :
  ∃ W:Nat->Nat->St->Hp->Prop,(∃ m,W 0 m σ H)/\∀ i m σ H,W i m σ H ->
   ((Itr lo n).stop i H/\D.nx σ H)\/((Itr lo n).go i H/\∃ N:St->Hp->Prop,(∀ σ' H',N σ' H'->∃ m',m' < m/\W (i+1) m' σ' H')/\∀ x H',(Itr lo n).yld i H x H'->g x σ H' fun σ2 H2=>tb { D with nx:=N,ct:=N,bk:=D.nx } σ2 H2):=by
 refine ⟨fun i m σ H=>m=n - i/\i<=n/\Pv i σ H,⟨n,by simp,Nat.zero_le _,h0⟩,?_⟩
 rintro i m σ H ⟨rfl,hi,p⟩
 by_cases hlt:i < n
 ·refine .inr ⟨hlt,Pv (i+1),fun σ' H' p'=>⟨n - (i+1),Nat.sub_lt_sub_left hlt (Nat.lt_succ_self i),rfl,hlt,p'⟩,fun x H' y=>?_⟩
  obtain ⟨e,y⟩:=y
  subst e y
  exact hs i σ _ hlt p
 ·have e:i=n:=by omega
  subst e
  exact .inl ⟨Nat.le_refl _,hd σ H p⟩
abbrev R2:=V->V->Hp->VK->Prop
def lB (X:Cx) (f:Value->Value->Sem Value) (r:R2):Prop :=
 ∀ (pins:List (Addr×Obj)) (s:Shared) (σ: St) (H:Hp) (x y:V) (v u:Value) (Q:VK),bG X pins σ H s->bX x v->bX y u->r x y H Q ->
  wpAny (model X.prog X.w) X.A (f v u) (EP X pins σ Q) X.xe s
def UnR (X:Cx) (f:Value->Sem Value) (r:V->Hp->VK->Prop):Prop :=
 ∀ (pins:List (Addr×Obj)) (s:Shared) (σ: St) (H:Hp) (x:V) (v:Value) (Q:VK),bG X pins σ H s->bX x v->r x H Q ->
  wpAny (model X.prog X.w) X.A (f v) (EP X pins σ Q) X.xe s
def iK (X:Cx) (f:Value) (r:List V->Hp->VK->Prop):Prop :=
 ∀ (pins:List (Addr×Obj)) (s:Shared) (σ: St) (H:Hp) (xs:List V) (us:List Value) (Q:VK),bG X pins σ H s->bP xs us->r xs H Q ->
  wpAny (model X.prog X.w) X.A (call f us) (EP X pins σ Q) X.xe s
def cH2 (X:Cx) (r:V->Hp->(Bool->Hp->Prop)->Prop):Prop :=
 ∀ (pins:List (Addr×Obj)) (s:Shared) (σ: St) (H:Hp) (x:V) (v:Value) (Q:Bool->Hp->Prop),bG X pins σ H s->bX x v->r x H Q ->
  wpAny (model X.prog X.w) X.A (truthy v) (TP X pins σ Q) X.xe s
def tOp (r:R2) (ta tb:TE):TE:=fun σ H Q=>ta σ H fun x H1=>tb σ H1 fun y H2=>r x y H2 Q
def tUn (r:V->Hp->VK->Prop) (ta:TE):TE:=fun σ H Q=>ta σ H fun x H1=>r x H1 Q
def rI (C:Int->Int->Prop) (g:Int->Int->V):R2:=fun x y H Q=>∃ i j,x= .int i/\y= .int j/\C i j/\Q (g i j) H
def rI0 (g:Int->Int->V):R2:=fun x y H Q=>∃ i j,x= .int i/\y= .int j/\Q (g i j) H
def rU (g:Int->V):V->Hp->VK->Prop:=fun x H Q=>∃ i,x= .int i/\Q (g i) H
section
variable {X:Cx}{a b c:Expr}{ta tb tc:TE}{pos:Pos}
theorem bU5 (ha:PE X a ta) (hb:PE X b tb) {pins:List (Addr×Obj)}{s:Shared}{σ: St}{H:Hp}{R:V->V->Hp->Prop}(I:bG X pins σ H s)
  (h:ta σ H fun x H1=>tb σ H1 fun y H2=>R x y H2) {Q:Value->Shared->Prop}{f:Value->Value->Sem Value}
  (hf:∀ v u s2 x y H2,bG X pins σ H2 s2->bX x v->bX y u->R x y H2->wpAny (model X.prog X.w) X.A (f v u) Q X.xe s2) :
  wpAny (model X.prog X.w) X.A (eval a X.env) (fun v s₁=>wpAny (model X.prog X.w) X.A (eval b X.env) (fun u s₂=>wpAny (model X.prog X.w) X.A (f v u) Q X.xe s₂) X.xe s₁) X.xe s:=by
 refine dQ (ha pins s σ H _ I h) fun v s1 ⟨x,H1,I1,r1,q1⟩=>?_
 refine dQ (hb pins s1 σ H1 _ I1 q1) fun u s2 ⟨y,H2,I2,r2,q2⟩=>?_
 exact hf v u s2 x y H2 I2 r1 r2 q2
theorem aL {op:Operator}{r:R2}(ho:lB X (binaryOp op) r) (ha:PE X a ta) (hb:PE X b tb):PE X (.BinOp a op b pos) (tOp r ta tb):=by
 intro pins s σ H Q I h
 exact wpAny_BinOp (bU5 ha hb I h fun v u s2 x y H2 I2 rx ry q=>ho pins s2 σ H2 x y v u Q I2 rx ry q)
theorem sJ {op:UnaryOp}{r:V->Hp->VK->Prop}(ho:UnR X (unaryOp op) r) (ha:PE X a ta):PE X (.UnaryOp op a pos) (tUn r ta):=by
 intro pins s σ H Q I h
 exact UnaryOp_ (dQ (ha pins s σ H _ I h) fun v s1 ⟨x,H1,I1,r1,q1⟩=>ho pins s1 σ H1 x v Q I1 r1 q1)
theorem opI {f:Value->Value->Sem Value}{C:Int->Int->Prop}{g:Int->Int->Int}
  (rule:∀ (i j:Int) (t u:Tok) (s:Shared) (Q:Value->Shared->Prop) (E:Value->Shared->Prop),C i j->Q (.int (g i j) s.toks) { s with toks:=s.toks+1 }->wpAny (model X.prog X.w) X.A (f (.int i t) (.int j u)) Q E s) :
  lB X f (rI C fun i j=> .int (g i j)):=by
 intro pins s σ H x y v u Q I rx ry h
 obtain ⟨i,j,rfl,rfl,hc,q⟩:=h
 obtain ⟨t,rfl⟩:=rx
 obtain ⟨t',rfl⟩:=ry
 exact rule i j t t' s _ _ hc ⟨.int (g i j),H,I.tok _,⟨_,rfl⟩,q⟩
theorem bY1 {f:Value->Value->Sem Value}{g:Int->Int->Int}
  (rule:∀ (i j:Int) (t u:Tok) (s:Shared) (Q:Value->Shared->Prop) (E:Value->Shared->Prop),Q (.int (g i j) s.toks) { s with toks:=s.toks+1 }->wpAny (model X.prog X.w) X.A (f (.int i t) (.int j u)) Q E s) :
  lB X f (rI0 fun i j=> .int (g i j)):=by
 intro pins s σ H x y v u Q I rx ry h
 obtain ⟨i,j,rfl,rfl,q⟩:=h
 obtain ⟨t,rfl⟩:=rx
 obtain ⟨t',rfl⟩:=ry
 exact rule i j t t' s _ _ ⟨.int (g i j),H,I.tok _,⟨_,rfl⟩,q⟩
theorem bW0 {f:Value->Value->Sem Value}{g:Int->Int->Bool}
  (rule:∀ (i j:Int) (t u:Tok) (s:Shared) (Q:Value->Shared->Prop) (E:Value->Shared->Prop),Q (.bool (g i j)) s->wpAny (model X.prog X.w) X.A (f (.int i t) (.int j u)) Q E s) :
  lB X f (rI0 fun i j=> .bl (g i j)):=by
 intro pins s σ H x y v u Q I rx ry h
 obtain ⟨i,j,rfl,rfl,q⟩:=h
 obtain ⟨t,rfl⟩:=rx
 obtain ⟨t',rfl⟩:=ry
 exact rule i j t t' s _ _ ⟨.bl (g i j),H,I,rfl,q⟩
def cG9 (i j:Int):Prop:=0<=j/\j<=1000000/\i.natAbs < 2 ^ 64
def bG3 (i j:Int):Prop:=(-(2 ^ 64) < i/\i < 2 ^ 64)\/(-(2 ^ 64) < j/\j < 2 ^ 64)
theorem bG3.ok {i j:Int}(h:bG3 i j):IntMulOk i j:=by
 rcases h with ⟨h1,h2⟩ | ⟨h1,h2⟩
 ·exact .of_left (intBits_le_64 h1 h2)
 ·exact .of_right (intBits_le_64 h1 h2)
theorem cC:lB X (binaryOp .Add) (rI0 fun i j=> .int (i+j)):=bY1 fun _ _ _ _ _ _ _ q=>add_int q
theorem cZ:lB X (binaryOp .Sub) (rI0 fun i j=> .int (i - j)):=bY1 fun _ _ _ _ _ _ _ q=>sub_int q
theorem gG:lB X (binaryOp .Mult) (rI bG3 fun i j=> .int (i * j)):=opI fun _ _ _ _ _ _ _ hc q=>mul_int q hc.ok
theorem fO:lB X (binaryOp .Mod) (rI (fun _ j=>0 < j) fun i j=> .int (i % j)):=opI fun i j _ _ _ _ _ hc q=>by
 have h1:(0:Int) < j:=hc
 exact mod_int' (by omega) (by rw [Int.fmod_eq_emod_of_nonneg i (by omega)];exact q)
theorem bR3:lB X (binaryOp .Pow) (rI cG9 fun i j=> .int (i ^ j.toNat)):=opI fun _ _ _ _ _ _ _ hc q=>pow_int_small hc.1 hc.2.1 hc.2.2 q
theorem unI {f:Value->Sem Value}{g:Int->Int}
  (rule:∀ (i:Int) (t:Tok) (s:Shared) (Q:Value->Shared->Prop) (E:Value->Shared->Prop),Q (.int (g i) s.toks) { s with toks:=s.toks+1 }->wpAny (model X.prog X.w) X.A (f (.int i t)) Q E s) :
  UnR X f (rU fun i=> .int (g i)):=by
 intro pins s σ H x v Q I rx h
 obtain ⟨i,rfl,q⟩:=h
 obtain ⟨t,rfl⟩:=rx
 exact rule i t s _ _ ⟨.int (g i),H,I.tok _,⟨_,rfl⟩,q⟩
theorem mN:UnR X (unaryOp .USub) (rU fun i=> .int (-i)):=unI fun _ _ _ _ _ q=>neg_int q
end
def bY0:V->V->Bool
 | .non,.non=>true | .non,.int _=>true | .int _,.non=>true | .non,.bl _=>true | .bl _,.non=>true | .non,.str _=>true | .str _,.non=>true
 | .int _,.int _=>true | .bl _,.bl _=>true | .str _,.str _=>true | .byt _,.byt _=>true
 | .int _,.str _=>true | .str _,.int _=>true | .bl _,.str _=>true | .str _,.bl _=>true
 | _,_=>false
def rEq:R2:=fun x y H Q=>bY0 x y=true/\Q (.bl (decide (x=y))) H
def rNe:R2:=fun x y H Q=>bY0 x y=true/\Q (.bl (!decide (x=y))) H
theorem aC8 {i j:Int}:decide (V.int i=V.int j)=(i == j):=by
 rw [Bool.eq_iff_iff]
 simp
theorem aS4 {i j:Bool}:decide (V.bl i=V.bl j)=(i == j):=by
 rw [Bool.eq_iff_iff]
 simp
theorem aB4 {i j:Str}:decide (V.str i=V.str j)=(i == j):=by
 rw [Bool.eq_iff_iff]
 simp
theorem aC7 {i j:Array UInt8}:decide (V.byt i=V.byt j)=(i.toList == j.toList):=by
 rw [Bool.eq_iff_iff]
 cases i
 cases j
 simp
section
variable {X:Cx}{a b c:Expr}{ta tb tc:TE}{pos:Pos}
theorem cL {pins:List (Addr×Obj)}{σ: St}{H:Hp}{s:Shared}{Q:VK}{k k':Bool}(I:bG X pins σ H s) (q:Q (.bl k) H) (e:k=k'):EP X pins σ Q (.bool k') s:=by
 subst e
 exact ⟨.bl k,H,I,rfl,q⟩
theorem cR:lB X (compareOp .Eq) rEq:=by
 intro pins s σ H x y v u Q I rx ry h
 obtain ⟨hs,q⟩:=h
 cases x with
 | non =>
  cases rx
  cases y with
  | non=>cases ry;exact PySem.EqNone.eq_none_none (cL I q (by simp))
  | bl j=>cases ry;exact PySem.EqNone.eq_none_bool (cL I q (by simp))
  | int j=>obtain ⟨t',rfl⟩:=ry;exact PySem.EqNone.eq_none_int (cL I q (by simp))
  | str j=>obtain ⟨t',rfl⟩:=ry;exact PySem.EqNone.eq_none_str (cL I q (by simp))
  | _=>exact absurd (show false=true from hs) Bool.false_ne_true
 | bl i =>
  cases rx
  cases y with
  | non=>cases ry;exact PySem.EqNone.eq_bool_none (cL I q (by simp))
  | bl j=>cases ry;exact eq_bool (cL I q aS4)
  | str j=>obtain ⟨t',rfl⟩:=ry;exact PySem.EqMixed.eq_bool_str (cL I q (by simp))
  | _=>exact absurd (show false=true from hs) Bool.false_ne_true
 | int i =>
  obtain ⟨t,rfl⟩:=rx
  cases y with
  | non=>cases ry;exact PySem.EqNone.eq_int_none (cL I q (by simp))
  | int j=>obtain ⟨t',rfl⟩:=ry;exact eq_int (cL I q aC8)
  | str j=>obtain ⟨t',rfl⟩:=ry;exact PySem.EqMixed.eq_int_str (cL I q (by simp))
  | _=>exact absurd (show false=true from hs) Bool.false_ne_true
 | str i =>
  obtain ⟨t,rfl⟩:=rx
  cases y with
  | non=>cases ry;exact PySem.EqNone.eq_str_none (cL I q (by simp))
  | bl j=>cases ry;exact PySem.EqMixed.eq_str_bool (cL I q (by simp))
  | int j=>obtain ⟨t',rfl⟩:=ry;exact PySem.EqMixed.eq_str_int (cL I q (by simp))
  | str j=>obtain ⟨t',rfl⟩:=ry;exact eq_str (cL I q aB4)
  | _=>exact absurd (show false=true from hs) Bool.false_ne_true
 | byt i =>
  obtain ⟨t,rfl⟩:=rx
  cases y with
  | byt j=>obtain ⟨t',rfl⟩:=ry;exact PySem.W.eq_bytes (cL I q aC7)
  | _=>exact absurd (show false=true from hs) Bool.false_ne_true
 | _=>cases y <;> exact absurd (show false=true from hs) Bool.false_ne_true
theorem bK4:lB X (compareOp .NotEq) rNe:=by
 intro pins s σ H x y v u Q I rx ry h
 obtain ⟨hs,q⟩:=h
 cases x with
 | non =>
  cases rx
  cases y with
  | non=>cases ry;exact PySem.EqNone.ne_none_none (cL I q (by simp))
  | bl j=>cases ry;exact PySem.EqNone.ne_none_bool (cL I q (by simp))
  | int j=>obtain ⟨t',rfl⟩:=ry;exact PySem.EqNone.ne_none_int (cL I q (by simp))
  | str j=>obtain ⟨t',rfl⟩:=ry;exact PySem.EqNone.ne_none_str (cL I q (by simp))
  | _=>exact absurd (show false=true from hs) Bool.false_ne_true
 | bl i =>
  cases rx
  cases y with
  | non=>cases ry;exact PySem.EqNone.ne_bool_none (cL I q (by simp))
  | bl j=>cases ry;exact ne_bool (cL I q (congrArg not aS4))
  | str j=>obtain ⟨t',rfl⟩:=ry;exact PySem.EqMixed.ne_bool_str (cL I q (by simp))
  | _=>exact absurd (show false=true from hs) Bool.false_ne_true
 | int i =>
  obtain ⟨t,rfl⟩:=rx
  cases y with
  | non=>cases ry;exact PySem.EqNone.ne_int_none (cL I q (by simp))
  | int j=>obtain ⟨t',rfl⟩:=ry;exact ne_int (cL I q (congrArg not aC8))
  | str j=>obtain ⟨t',rfl⟩:=ry;exact PySem.EqMixed.ne_int_str (cL I q (by simp))
  | _=>exact absurd (show false=true from hs) Bool.false_ne_true
 | str i =>
  obtain ⟨t,rfl⟩:=rx
  cases y with
  | non=>cases ry;exact PySem.EqNone.ne_str_none (cL I q (by simp))
  | bl j=>cases ry;exact PySem.EqMixed.ne_str_bool (cL I q (by simp))
  | int j=>obtain ⟨t',rfl⟩:=ry;exact PySem.EqMixed.ne_str_int (cL I q (by simp))
  | str j=>obtain ⟨t',rfl⟩:=ry;exact ne_str (cL I q (congrArg not aB4))
  | _=>exact absurd (show false=true from hs) Bool.false_ne_true
 | byt i =>
  obtain ⟨t,rfl⟩:=rx
  cases y with
  | byt j=>obtain ⟨t',rfl⟩:=ry;exact PySem.W.ne_bytes (cL I q (congrArg not aC7))
  | _=>exact absurd (show false=true from hs) Bool.false_ne_true
 | _=>cases y <;> exact absurd (show false=true from hs) Bool.false_ne_true
theorem oU:lB X (compareOp .Lt) (rI0 fun i j=> .bl (decide (i < j))):=bW0 fun _ _ _ _ _ _ _ q=>lt_int q
theorem kU:lB X (compareOp .Gt) (rI0 fun i j=> .bl (decide (j < i))):=bW0 fun _ _ _ _ _ _ _ q=>gt_int q
theorem wT:lB X (compareOp .GtE) (rI0 fun i j=> .bl (decide (j<=i))):=bW0 fun _ _ _ _ _ _ _ q=>ge_int q
theorem bB (b:Expr) {op:CmpOp}(h:op≠ .In:=by decide) (h2:op≠ .NotIn:=by decide):behindInMarks op b=false:=by
 have e1:(op == CmpOp.In)=false:=by cases op <;> first | rfl | exact absurd rfl h
 have e2:(op == CmpOp.NotIn)=false:=by cases op <;> first | rfl | exact absurd rfl h2
 cases b <;> simp [behindInMarks,e1,e2]
theorem dX {op:CmpOp}{r:R2}(ho:lB X (compareOp op) r) (ha:PE X a ta) (hb:PE X b tb) (hm:behindInMarks op b=false):PE X (.Compare a [op] [b] pos) (tOp r ta tb):=by
 intro pins s σ H Q I h
 exact wpAny_Compare1 (bU5 ha hb I h fun v u s2 x y H2 I2 rx ry q=>ho pins s2 σ H2 x y v u Q I2 rx ry q) hm
def aQ5 (t:TE):TT:=fun σ H Q=>t σ H fun x H'=>∃ k,x= .bl k/\Q k H'
theorem aV {op:CmpOp}{r:R2}(ho:lB X (compareOp op) r) (ha:PE X a ta) (hb:PE X b tb) (hm:behindInMarks op b=false):PT X (.Compare a [op] [b] pos) (aQ5 (tOp r ta tb)):=by
 intro pins s σ H Q I h
 refine wpAny_isTrue_Compare1 (dQ (ha pins s σ H _ I h) fun v s1 ⟨x,H1,I1,r1,q1⟩=>dQ (hb pins s1 σ H1 _ I1 q1) fun u s2 ⟨y,H2,I2,r2,q2⟩ =>
  dQ (ho pins s2 σ H2 x y v u _ I2 r1 r2 q2) fun c s3 ⟨z,H3,I3,r3,k,e,q3⟩=>?_) hm
 subst e
 cases r3
 exact wpAny_truthy_bool ⟨H3,I3,q3⟩
def bY3 (K:PySem.W.Frag) (x:V) (H:Hp) (k:Bool):Prop :=
 match x with
 | .non=>k=false
 | .bl b=>k=b
 | .int i=>k=(i != 0)
 | .str y=>y.length<=sizeLine/\k=((y.length:Int) != 0)
 | .byt y=>y.size<=sizeLine/\k=((y.size:Int) != 0)
 | .ref p=>(∃ xs,bN K H p xs/\k= !xs.isEmpty)\/(∃ xs,aX K H p xs/\k= !xs.isEmpty)\/∃ kvs,H p=some (.dK kvs)/\k= !kvs.isEmpty
 | _=>False
theorem zP {κ: Type}{kvs:List (κ×V)}{vs:List (κ×Value)}(r:KV kvs vs):(!vs.isEmpty)= !kvs.isEmpty:=by
 cases r <;> rfl
theorem qD {xs:List V}{its:List Value}(r:bP xs its):(!its.toArray.isEmpty)= !xs.isEmpty:=by
 cases r <;> simp
theorem pR:(sizeLine:Nat) < 2 ^ 63:=by rw [sizeLine_eq];decide
theorem bU9:cH2 X (fun x H Q=>∃ k,bY3 X.K x H k/\Q k H):=by
 intro pins s σ H x v Q I rx h
 obtain ⟨k,e,q⟩:=h
 have hl:=pR
 have hs:sizeLine=16777216:=sizeLine_eq
 cases x with
 | non =>
  cases rx
  have e':k=false:=e
  subst e'
  exact truthy_none ⟨H,I,q⟩
 | bl b =>
  cases rx
  have e':k=b:=e
  subst e'
  exact wpAny_truthy_bool ⟨H,I,q⟩
 | int i =>
  obtain ⟨t,rfl⟩:=rx
  have e':k=(i != 0):=e
  subst e'
  exact PySem.P.truthy_int ⟨H,I,q⟩
 | str y =>
  obtain ⟨t,rfl⟩:=rx
  obtain ⟨hy,e'⟩:y.length<=sizeLine/\k=((y.length:Int) != 0):=e
  subst e'
  exact PySem.P.truthy_str (by omega) ⟨H,I.tok _,q⟩
 | byt y =>
  obtain ⟨t,rfl⟩:=rx
  obtain ⟨hy,e'⟩:y.size<=sizeLine/\k=((y.size:Int) != 0):=e
  subst e'
  exact PySem.W.truthy_bytes (by omega) ⟨H,I.tok _,q⟩
 | ref p =>
  cases rx
  have e':(∃ xs,bN X.K H p xs/\k= !xs.isEmpty)\/(∃ xs,aX X.K H p xs/\k= !xs.isEmpty)\/∃ kvs,H p=some (.dK kvs)/\k= !kvs.isEmpty:=e
  rcases e' with ⟨xs,hx,e'⟩ | ⟨xs,hx,e'⟩ | ⟨kvs,hx,e'⟩
  ·subst e'
   obtain ⟨its,r,pl,hz⟩:=I.list hx
   have hlen:=r.length
   exact wpAny_truthy_list pl.isList (by simp only [List.size_toArray];omega) ⟨H,I.tok _,by rw [qD r];exact q⟩
  ·subst e'
   obtain ⟨its,r,pl,hz⟩:=I.tuple hx
   have hlen:=r.length
   exact truthy_tuple pl (by simp only [List.size_toArray];omega) ⟨H,I.tok _,by rw [qD r];exact q⟩
  ·subst e'
   obtain ⟨hz,hS,vs,r,m⟩:kvs.length<=sizeLine/\(p == sysModules)=false/\∃ vs,KV kvs vs/\s.heap.DictOf (bH X.prog X.w) p vs:=I.hok p _ hx
   have hlen:kvs.length=vs.length:=Paired.length r
   exact wpAny_truthy_dict hS m (by omega) ⟨H,I.tok _,by rw [zP r];exact q⟩
 | _=>exact (show False from e).elim
theorem kB (ha:PE X a ta) (he:∀ whole,isTrue a X.env whole=(do let v <- whole;standAt a.pos;holding [v] (truthy v))) :
  PT X a (fun σ H Q=>ta σ H fun x H'=>∃ k,bY3 X.K x H' k/\Q k H'):=by
 intro pins s σ H Q I h
 exact isTrue_plain (dQ (ha pins s σ H _ I h) fun v s1 ⟨x,H1,I1,r1,q1⟩=>bU9 pins s1 σ H1 x v Q I1 r1 q1) (he _)
theorem oQ:lB X (binaryOp .Add) (fun x y H Q=>∃ i j,x= .str i/\y= .str j/\i.length+j.length<=sizeLine/\Q (.str (i++j)) H):=by
 intro pins s σ H x y v u Q I rx ry h
 obtain ⟨i,j,rfl,rfl,hz,q⟩:=h
 obtain ⟨t,rfl⟩:=rx
 obtain ⟨t',rfl⟩:=ry
 exact add_str (fun t' tk=>⟨.str (i++j),H,I.tok _,⟨_,rfl⟩,q⟩) hz
theorem kT {x:V}{us:List Value}(r:bP [x] us):∃ u,us=[u]/\bX x u:=by
 cases r with
 | cons r1 r2=>cases r2;exact ⟨_,rfl,r1⟩
theorem aF4 {x y:V}{us:List Value}(r:bP [x,y] us):∃ u w',us=[u,w']/\bX x u/\bX y w':=by
 cases r with
 | cons r1 r2 =>
  cases r2 with
  | cons r3 r4=>cases r4;exact ⟨_,_,rfl,r1,r3⟩
theorem aH2 (hc:X.calm=true):iK X (.builtin "max") (fun xs H Q=>∃ i j,xs=[.int i,.int j]/\Q (.int (if j > i then j else i)) H):=by
 intro pins s σ H xs us Q I r h
 obtain ⟨i,j,rfl,q⟩:=h
 obtain ⟨u,w',rfl,⟨t,rfl⟩,⟨t',rfl⟩⟩:=aF4 r
 refine max_two_ints (I.ok.hd hc) fun h' tk k=>⟨_,H,I.kept k,?_,q⟩
 by_cases hj:j > i
 ·rw [if_pos hj,if_pos hj];exact ⟨_,rfl⟩
 ·rw [if_neg hj,if_neg hj];exact ⟨_,rfl⟩
theorem mR (hc:X.calm=true):iK X (.builtin "min") (fun xs H Q=>∃ i j,xs=[.int i,.int j]/\Q (.int (if j < i then j else i)) H):=by
 intro pins s σ H xs us Q I r h
 obtain ⟨i,j,rfl,q⟩:=h
 obtain ⟨u,w',rfl,⟨t,rfl⟩,⟨t',rfl⟩⟩:=aF4 r
 refine min_two_ints (I.ok.hd hc) fun h' tk k=>⟨_,H,I.kept k,?_,q⟩
 by_cases hj:j < i
 ·rw [if_pos hj,if_pos hj];exact ⟨_,rfl⟩
 ·rw [if_neg hj,if_neg hj];exact ⟨_,rfl⟩
theorem fU:iK X (.type "int") (fun xs H Q=>(∃ i,xs=[.int i]/\Q (.int i) H)\/∃ k,xs=[.bl k]/\Q (.int (if k then 1 else 0)) H):=by
 intro pins s σ H xs us Q I r h
 rcases h with ⟨i,rfl,q⟩ | ⟨k,rfl,q⟩
 ·obtain ⟨u,rfl,t,rfl⟩:=kT r
  exact call_int_int ⟨.int i,H,I,⟨_,rfl⟩,q⟩
 ·obtain ⟨u,rfl,r1⟩:=kT r
  cases r1
  exact call_int_bool ⟨.int (if k then 1 else 0),H,I.tok _,⟨_,rfl⟩,q⟩
end
structure bV9 (h:Heap) (x dx C:Addr) (mA:Str->Option Value):Prop where
 obj:h.get? x=some (PySem.W.instObj C dx)
 ns:h.Ns1 dx mA
 ne:dx≠x
theorem aI1 {h:Heap}{dx:Addr}{mA:Str->Option Value}(n:h.Ns1 dx mA):∃ od,h.get? dx=some od/\∀ name,PySem.W.lookIn name od=some (mA name):=by
 obtain ⟨o,es,ep,ho,hd,hk,_,hm⟩:=n
 refine ⟨o,ho,fun name=>?_⟩
 have e:=hm name
 unfold nsFind findBy at e
 rw [<- Array.find?_toList] at e
 unfold PySem.W.lookIn
 rw [hd]
 dsimp only
 split
 ·rename_i y q
  rw [q] at e
  exact congrArg some e
 ·rename_i q
  rw [q] at e
  have a:es.toList.any (·.refKey)=false:=by
   rw [List.any_eq_false]
   intro y hy
   obtain ⟨z,t,hkey⟩:=hk y (Array.mem_toList_iff.mp hy)
   simp [DictEntry.refKey,hkey]
  have a':¬ es.toList.any (·.refKey)=true:=by rw [a];exact Bool.false_ne_true
  rw [if_neg a']
  exact congrArg some e
theorem bV9.look {h:Heap}{x dx C:Addr}{mA:Str->Option Value}(I:bV9 h x dx C mA):∃ od,PySem.W.InstAt h x (PySem.W.instObj C dx) C (some od)/\∀ name,PySem.W.lookIn name od=some (mA name) :=
 let ⟨od,ho,hl⟩:=aI1 I.ns
 ⟨od,⟨I.obj,rfl,rfl,ho⟩,hl⟩
section
variable {prog:Program}{w:World}{A:Around}{E:Value->Shared->Prop}{s:Shared}{K:PySem.W.Frag}{x dx C f:Addr}{mA:Str->Option Value}{name:Str}{v:Value}
end
theorem jT.some_of {v:V}{o:Option Value}(r:jT (some v) o):∃ u,o=some u/\bX v u:=by
 cases o with
 | none=>exact (show False from r).elim
 | some u=>exact ⟨u,rfl,r⟩
theorem jT.none_of {o:Option Value}(r:jT none o):o=none:=by
 cases o with
 | none=>rfl
 | some u=>exact (show False from r).elim
section
variable {P:Program}{w:World}{H H':Hp}{h h':Heap}{a C dx:Addr}{fs fs':List (Str×V)}
theorem bG1 (hok:lK P w H h) (e:H a=some (.ins C dx fs)):∃ mA,bV9 h a dx C mA/\(∀ f,jT (fs.lookup f) (mA f))/\PySem.Within mA (fs.map (·.1))/\fs.length<=1000/\H dx=some (.own a):=by
 obtain ⟨d,z,ne,ob,mA,n,r,q⟩:=(show dL P w H h a (.ins C dx fs) from hok a _ e)
 exact ⟨mA,⟨ob,n,ne⟩,r,q,z,d⟩
end
structure Cls (K:PySem.W.Frag) (C:Addr):Prop where
 pg:PySem.W.plainGet K C Str.empty=true
 hd:PySem.W.hasDictIn K C=true
 po:PySem.W.plainOver K C=true
 sa:PySem.W.findIn K (.ref C) "__setattr__"=some (some (.builtin "object.__setattr__"))
theorem Cls.get {K:PySem.W.Frag}{C:Addr}(c:Cls K C) (f:Str):PySem.W.plainGet K C f=true:=c.pg
section
variable {X:Cx}{pins:List (Addr×Obj)}{σ: St}{H:Hp}{s:Shared}{a C dx:Addr}{fs:List (Str×V)}{f:Str}{v:V}{A:Around}{E:Value->Shared->Prop}
end
section
variable {X:Cx}{o e value:Expr}{f:Str}{pos pos' tpos:Pos}{ta tv:TE}
end
section
variable {X:Cx}{pins:List (Addr×Obj)}{σ: St}{H:Hp}{s:Shared}{A:Around}{E:Value->Shared->Prop}{Q:Value->Shared->Prop}{c:Value}{b:Bool}
inductive mU (K:PySem.W.Frag) (H:Hp):V->Value->Prop where
 | non:mU K H .non (.type "NoneType")
 | bl (x:Bool):mU K H (.bl x) (.type "bool")
 | int (i:Int):mU K H (.int i) (.type "int")
 | str (x:Str):mU K H (.str x) (.type "str")
 | flt (x:UInt64):mU K H (.flt x) (.type "float")
 | lst {a:Addr}{xs:List V}(e:H a=some (.lst xs)):mU K H (.ref a) (.type "list")
 | frz {a:Addr}{o:Obj}{xs:List V}(e:H a=some (.frz o (.lst xs))):mU K H (.ref a) (.type "list")
 | tup {a:Addr}{xs:List V}(e:H a=some (.tup xs)):mU K H (.ref a) (.type "tuple")
 | dK {a:Addr}{kvs:List (Key×V)}(e:H a=some (.dK kvs)):mU K H (.ref a) (.type "dict")
 | dT {a:Addr}{kvs:List (List Key×V)}(e:H a=some (.dT kvs)):mU K H (.ref a) (.type "dict")
 | ins {a C dx:Addr}{fs:List (Str×V)}(e:H a=some (.ins C dx fs)) (cl:Cls K C) (ha:PySem.W.findIn K (.ref C) "__class__"=some (some (.builtin "object.__class__")))
   (hn:PySem.W.specialIn K (.builtin "object.__class__") "__get__"=some (some (.builtin "getset_descriptor.__get__"))) (htk:PySem.W.takesIn K (.builtin "object.__class__")=some true)
   (hm:PySem.W.mroIn K C (.type "object")=some true):mU K H (.ref a) (.ref C)
theorem aF9 {x:V}{u t:Value}(I:bG X pins σ H s) (rx:bX x u) (ty:mU X.K H x t) (e:PySem.W.kitOne X.K t c=some b) (h:∀ tk,Q (.bool b) { s with toks:=tk }) :
  wpAny (model X.prog X.w) A (call (.builtin "isinstance") [u,c]) Q E s:=by
 cases ty with
 | non=>cases (show u=Value.none from rx);exact PySem.W.kia_one PySem.W.kitx_none I.kIn True.intro e (fun z=>nomatch z) h
 | bl y=>cases (show u=Value.bool y from rx);exact PySem.W.kia_one PySem.W.kitx_bool I.kIn True.intro e (fun z=>nomatch z) h
 | int i=>obtain ⟨t,q⟩:=(show ∃ t,u=Value.int i t from rx);cases q;exact PySem.W.kia_one PySem.W.kitx_int I.kIn True.intro e (fun z=>nomatch z) h
 | str y=>obtain ⟨t,q⟩:=(show ∃ t,u=Value.str y t from rx);cases q;exact PySem.W.kia_one PySem.W.kitx_str I.kIn True.intro e (fun z=>nomatch z) h
 | flt y=>obtain ⟨t,q⟩:=(show ∃ t,u=Value.float y t from rx);cases q;exact PySem.W.kia_one PySem.W.kitx_float I.kIn True.intro e (fun z=>nomatch z) h
 | @lst a xs ea =>
  cases (show u=Value.ref a from rx)
  obtain ⟨_,_,n,_,h1⟩:=(show dL X.prog X.w H s.heap a (.lst xs) from I.hok a _ ea)
  exact PySem.W.kia_one PySem.W.kitx_list I.kIn ⟨_,h1,rfl⟩ e (fun z=>nomatch z) h
 | @frz a ob xs ea =>
  cases (show u=Value.ref a from rx)
  obtain ⟨_,_,_,n,_,h1⟩:=(show dL X.prog X.w H s.heap a (.frz ob (.lst xs)) from I.hok a _ ea)
  exact PySem.W.kia_one PySem.W.kitx_list I.kIn ⟨_,h1,rfl⟩ e (fun z=>nomatch z) h
 | @tup a xs ea =>
  cases (show u=Value.ref a from rx)
  obtain ⟨_,_,_,p⟩:=(show dL X.prog X.w H s.heap a (.tup xs) from I.hok a _ ea)
  obtain ⟨o,h1,h2,_⟩:=p
  exact PySem.W.kia_one PySem.W.kitx_tuple I.kIn ⟨o,h1,h2⟩ e (fun z=>nomatch z) h
 | @dK a kvs ea =>
  cases (show u=Value.ref a from rx)
  obtain ⟨_,_,vs,_,p⟩:=(show dL X.prog X.w H s.heap a (.dK kvs) from I.hok a _ ea)
  obtain ⟨o,es,ep,h1,h2,_⟩:=p
  exact PySem.W.kia_one PySem.W.kitx_dict I.kIn ⟨o,h1,h2.1⟩ e (fun z=>nomatch z) h
 | @dT a kvs ea =>
  cases (show u=Value.ref a from rx)
  obtain ⟨_,_,xs,_,o,es,ep,h1,h2,_⟩:=(show dL X.prog X.w H s.heap a (.dT kvs) from I.hok a _ ea)
  exact PySem.W.kia_one PySem.W.kitx_dict I.kIn ⟨o,h1,h2.1⟩ e (fun z=>nomatch z) h
 | @ins a C dx fs ea cl ha hn htk hm =>
  cases (show u=Value.ref a from rx)
  obtain ⟨mA,O,_⟩:=bG1 I.hok ea
  obtain ⟨od,J,_⟩:=O.look
  exact PySem.W.kia_one (PySem.W.kitx_own (cl.get _) cl.hd ha hn htk hm) I.kIn J e (fun z=>nomatch z) h
end
structure eF (k:Nat) (A:Around):Prop where
 hd:A.handled=none
 dp:A.depth+3 * k+5 < recursionLimit
 un:A.units+16 * k+200 < cLine
 gd:A.guards=some []
theorem eF.mono {j k:Nat}{A:Around}(r:eF k A) (h:j<=k):eF j A:=⟨r.hd,by have:=r.dp;omega,by have:=r.un;omega,r.gd⟩
theorem eF.deeper {k:Nat}{A:Around}(r:eF (k+1) A) (env:Env):eF k (A.deeper env) :=
 ⟨r.hd,by have:=r.dp;show A.depth+1+3 * k+5 < _;omega,by have:=r.un;show A.units+3+16 * k+200 < _;omega,r.gd⟩
theorem eF.depth {k:Nat}{A:Around}(r:eF k A):A.depth < recursionLimit:=by have:=r.dp;omega
theorem eF.units {k:Nat}{A:Around}(r:eF k A):A.units+64 < cLine:=by have:=r.un;omega
def tNil:TA:=fun _ H Q=>Q [] H
def iL (ta:TE) (tr:TA):TA:=fun σ H Q=>ta σ H fun x H1=>tr σ H1 fun xs H2=>Q (x :: xs) H2
section
variable {X:Cx}{e:Expr}{es:List Expr}{te:TE}{t:TA}{pos:Pos}
theorem aC:PA X [] tNil:=fun _ _ _ _ H Q I h=>Calls.spliced_nil ⟨[],H,I,.nil,h⟩
theorem aA (ha:PE X e te) (hr:PA X es t) (hs:starEach (e :: es) X.env=(false,eval e X.env) :: starEach es X.env:=by rfl):PA X (e :: es) (iL te t):=by
 intro pos pins s σ H Q I h
 rw [hs]
 show wpAny _ _ (spliced ((false,eval e X.env) :: backTo pos (starEach es X.env))) _ _ s
 refine Calls.spliced_cons (dQ (ha pins s σ H _ I h) fun u s1 ⟨x,H1,I1,r1,q1⟩=>?_)
 exact dQ (hr pos pins s1 σ H1 _ I1 q1) fun us s2 ⟨xs,H2,I2,r2,q2⟩=>⟨x :: xs,H2,I2,.cons r1 r2,q2⟩
def bB2 (t:TA):TE:=fun σ H Q=>t σ H fun xs H1=>xs.length<=sizeLine/\∀ p,H1 p=none->Q (.ref p) (aW H1 p (.tup xs))
def bE5 (t:TA):TE:=fun σ H Q=>t σ H fun xs H1=>xs.length<=sizeLine/\∀ p,H1 p=none->Q (.ref p) (aW H1 p (.lst xs))
theorem aO {x1} (h:PA X es t):PE X (.Tuple es x1 pos) (bB2 t):=by
 intro pins s σ H Q I hq
 refine wpAny_Tuple_spliced (dQ (h pos pins s σ H _ I hq) fun us s1 ⟨xs,H1,I1,r,z,q⟩=>⟨by rw [<- r.length];exact z,?_⟩)
 have hf:H1 s1.heap.objs.size=none:=I1.hok.fresh (Nat.le_refl _)
 refine ⟨.ref s1.heap.objs.size,aW H1 s1.heap.objs.size (.tup xs),I1.laid (t':=s1.toks) (fun b u e=>Heap.get?_push_of_some _ e) (Nat.le_refl _) ?_,rfl,q _ hf⟩
 exact ⟨z,us,r,⟨_,Heap.get?_push_size _ rfl,rfl,_,rfl,rfl⟩⟩
theorem bS (h:PA X es t):PE X (.List es pos) (bE5 t):=by
 intro pins s σ H Q I hq
 refine wpAny_List_spliced (dQ (h pos pins s σ H _ I hq) fun us s1 ⟨xs,H1,I1,r,z,q⟩=>⟨by rw [<- r.length];exact z,?_⟩)
 have hf:H1 s1.heap.objs.size=none:=I1.hok.fresh (Nat.le_refl _)
 refine ⟨.ref s1.heap.objs.size,aW H1 s1.heap.objs.size (.lst xs),I1.laid (t':=s1.toks) (fun b u e=>Heap.get?_push_of_some _ e) (Nat.le_refl _) ?_,rfl,q _ hf⟩
 exact ⟨z,us,0,r,Heap.get?_push_size _ rfl⟩
end
abbrev Sp:=List V->Hp->VK->XK->Prop
abbrev CXT:=List Env->Hp->Shared->XK->Value->Shared->Prop
structure bE2 (P:Program) (w:World) (K:PySem.W.Frag) (mg:Str->Option Value) (base:Heap) (A:Around) (outer:List Env) (s:Shared) (H:Hp):Prop where
 frames:A.frames=some outer
 mod:Mod K mg base
 bs:∀ b o,base.get? b=some o->s.heap.get? b=some o/\H b=none
 bsz:base.objs.size<=s.heap.objs.size
 funs:s.heap.FunFrames base outer
 frf:∀ b∈frs outer,H b=none
 hok:lK P w H s.heap
 bare:AllBare s.gens
def CE (outer:List Env) (P:Program) (w:World) (H:Hp) (s:Shared) (Q:VK) (u:Value) (s':Shared):Prop :=
 ∃ v H',s'.os=s.os/\AllBare s'.gens/\Un (frs outer) [] H H' s.heap s'.heap/\lK P w H' s'.heap/\bX v u/\Q v H'
def CR (CX:CXT) (outer:List Env) (P:Program) (w:World) (H:Hp) (s:Shared) (Q:VK) (E:XK) (r:Result) (s':Shared):Prop :=
 match r with
 | .ok (.ret u)=>CE outer P w H s Q u s'
 | .ok _=>False
 | .error e=>CX outer H s E e s'
structure bQ (P:Program) (w:World) (K:PySem.W.Frag) (mg:Str->Option Value) (base:Heap) (CX:CXT) (k:Nat) (f:Addr) (fd:FuncData) (ps:List Str) (sp:Sp):Prop where
 len:∀ vs H Q E,sp vs H Q E->vs.length=ps.length
 run:∀ (A:Around) (outer:List Env) (s:Shared) (H:Hp) (args:Args) (us:List Value) (vs:List V) (Q:VK) (E:XK),eF k A->bE2 P w K mg base A outer s H->BindsTo s fd args (ps.zip us)->bP vs us->sp vs H Q E ->
  codeAny (model P w) A (.call (.ref f) args) (CR CX outer P w H s Q E) s
section
variable {X:Cx}{pins:List (Addr×Obj)}{σ: St}{H:Hp}{s s':Shared}
theorem bG.env0 (I:bG X pins σ H s):bE2 X.prog X.w X.K X.mg X.base X.A X.stack s H :=
 ⟨I.ok.frames,I.ok.mod,I.bs,Nat.le_trans I.ok.bsz I.sz,I.stack,I.stkFree,I.hok,I.bare⟩
theorem bG.after {Q:VK}{u:Value}(I:bG X pins σ H s) (h:CE X.stack X.prog X.w H s Q u s'):EP X pins σ Q u s':=by
 obtain ⟨v,H',os,bare,un,hok,r,q⟩:=h
 obtain ⟨hh,g,d,t,os'⟩:=s'
 obtain rfl:os'=s.os:=os
 exact ⟨v,H',I.call (h':=hh) (g':=g) (d':=d) (t':=t) (ch:=[]) un hok bare (fun b z=>absurd z (by simp)),r,q⟩
end
def aA6 (sp:Sp) (dvs:List V) (E:XK) (t:TA):TE:=fun σ H Q=>t σ H fun vs H1=>sp (vs++dvs) H1 Q E
def jP (K:PySem.W.Frag) (fd:FuncData) (ps:List Str) (ds:List Value):Prop :=
 ∀ (s:Shared) (us:List Value),K.In s.heap->(us++ds).length=ps.length->BindsTo s fd ⟨us,[]⟩ (ps.zip (us++ds))
theorem jP.all {K:PySem.W.Frag}{fd:FuncData}{ps:List Str}(h:∀ us:List Value,us.length=ps.length->bindArgs fd ⟨us,[]⟩=pure (ps.zip us)):jP K fd ps []:=fun s us _ hl=>by
 rw [List.append_nil] at hl ⊢
 exact .of_eq (h us hl)
def xT (CX:CXT) (X:Cx) (E:XK):Prop:=∀ (pins:List (Addr×Obj)) (σ: St) (H:Hp) (s:Shared) (e:Value) (s':Shared),bG X pins σ H s->CX X.stack H s E e s'->X.xe e s'
section
variable {X:Cx}{CX:CXT}{k:Nat}{f C:Addr}{fd:FuncData}{ps:List Str}{sp:Sp}{dvs:List V}{ds:List Value}{E:XK}{x m:Str}{p pos apos:Pos}{e o:Expr}{es:List Expr}{ta:TE}{t:TA}
theorem bT2 {pins:List (Addr×Obj)}{σ: St}{H:Hp}{s:Shared}{Q:VK}{us:List Value}{vs:List V}(F:bQ X.prog X.w X.K X.mg X.base CX k f fd ps sp) (hr:eF k X.A) (hb:jP X.K fd ps ds) (hd:bP dvs ds) (hx:xT CX X E)
  (I:bG X pins σ H s) (r:bP vs us) (h:sp (vs++dvs) H Q E):wpAny (model X.prog X.w) X.A (call (.ref f) us) (EP X pins σ Q) X.xe s:=by
 have r2:bP (vs++dvs) (us++ds):=r.append hd
 have hl:(us++ds).length=ps.length:=by rw [<- r2.length];exact F.len _ _ _ _ h
 refine wpAny_call (codeAny_mono (F.run X.A X.stack s H ⟨us,[]⟩ (us++ds) (vs++dvs) Q E hr I.env0 (hb s us I.kIn hl) r2 h) fun r s' hq=>?_)
 cases r with
 | error e=>exact hx pins σ H s e s' I hq
 | ok fl =>
  cases fl with
  | ret u=>exact I.after hq
  | next=>exact False.elim hq
  | brk=>exact False.elim hq
  | cont=>exact False.elim hq
theorem bD3 (F:bQ X.prog X.w X.K X.mg X.base CX k f fd ps sp) (hr:eF k X.A) (hg:Gl X x) (hm:X.mg x=some (.ref f)) (hk:PySem.W.keepIn X.K (.ref f)=true) (hb:jP X.K fd ps ds) (hd:bP dvs ds) (hx:xT CX X E)
  (ha:PA X (e :: es) t) (hdb:(x == ("__debug__": Str))=false:=by decide) (he:starEach (e :: es) X.env=(false,eval e X.env) :: starEach es X.env:=by rfl) (hpl:(backTo pos (starEach es X.env)).any (·.1)=false:=by rfl) :
  PE X (.Call (.Name x p) (e :: es) [] pos) (aA6 sp dvs E t):=by
 intro pins s σ H Q I h
 refine wpAny_Call_Name_kw (aD6 I hg hm ?_ hdb)
 refine PySem.W.callWith_K (h₀:=X.base) I.ok.mod.kin hk (dQ (ha pos pins s σ H _ I h) fun us s1 ⟨vs,H1,I1,r,q⟩=>⟨I1.kIn,?_⟩) he hpl
 exact bT2 F hr hb hd hx I1 r q
end
section
variable {X:Cx}{CX:CXT}{k:Nat}{f C:Addr}{fd:FuncData}{ps ks:List Str}{sp:Sp}{E:XK}{x m:Str}{p pos apos kpos:Pos}{e o:Expr}{es:List Expr}{kws:List Keyword}{te ta:TE}{t tk:TA}{nm:Option Str}
variable {g:List Value->List Value->List Value}{gV:List V->List V->List V}
end
structure aS (N P:List Str) (sc:Scope):Prop where
 kind:sc.kind= .function
 co:sc.isCoroutine=false
 gen:sc.isGenerator=false
 nd:N.Nodup
 pre:N.take P.length=P
 par:∀ x∈P,sc.names.lookup x=some .local\/sc.names.lookup x=some .cell
 nofree:∀ y∈sc.names,y.2≠ .free
theorem rX {kindOf:Str->Option NameKind}{x:Str}:∀ {binds:List (Str×Value)}{m:Str->Option Value},(∀ v,(x,v)∉binds)->bindL kindOf binds m x=m x
 | [],_,_=>rfl
 | (n,v) :: r,m,h=>by
  unfold bindL
  rw [rX fun w hw=>h w (List.mem_cons_of_mem _ hw)]
  split
  ·have:x≠n:=by rintro rfl;exact h v List.mem_cons_self
   simp [this]
  ·rfl
theorem tF {kindOf:Str->Option NameKind}{x:Str}:∀ {binds:List (Str×Value)}{m:Str->Option Value},(∀ v,(x,v)∉binds)->bindC kindOf binds m x=m x
 | [],_,_=>rfl
 | (n,v) :: r,m,h=>by
  unfold bindC
  rw [tF fun w hw=>h w (List.mem_cons_of_mem _ hw)]
  split
  ·rfl
  ·have:x≠n:=by rintro rfl;exact h v List.mem_cons_self
   simp [this]
theorem rW {kindOf:Str->Option NameKind}{x:Str}{v:Value}:∀ {P:List Str}{vs:List Value}{i:Nat}{m:Str->Option Value},P.Nodup->P[i]?=some x->vs[i]?=some v->kindOf x=some .local ->
  bindL kindOf (P.zip vs) m x=some v
 | [],_,_,_,_,h,_,_=>by simp at h
 | _ :: _,[],_,_,_,_,h,_=>by simp at h
 | p :: P,w :: vs,0,m,nd,h1,h2,hk=>by
  simp at h1 h2;subst h1;subst h2
  show bindL kindOf ((p,w) :: P.zip vs) m p=_
  unfold bindL
  rw [rX fun v hv=>(List.nodup_cons.mp nd).1 (List.of_mem_zip hv).1,if_pos hk]
  simp
 | p :: P,w :: vs,i+1,m,nd,h1,h2,hk=>by
  show bindL kindOf ((p,w) :: P.zip vs) m x=_
  unfold bindL
  exact rW (i:=i) (List.nodup_cons.mp nd).2 (by simpa using h1) (by simpa using h2) hk
theorem rK {kindOf:Str->Option NameKind}{x:Str}{v:Value}:∀ {P:List Str}{vs:List Value}{i:Nat}{m:Str->Option Value},P.Nodup->P[i]?=some x->vs[i]?=some v->kindOf x≠some .local ->
  bindC kindOf (P.zip vs) m x=some v
 | [],_,_,_,_,h,_,_=>by simp at h
 | _ :: _,[],_,_,_,_,h,_=>by simp at h
 | p :: P,w :: vs,0,m,nd,h1,h2,hk=>by
  simp at h1 h2;subst h1;subst h2
  show bindC kindOf ((p,w) :: P.zip vs) m p=_
  unfold bindC
  rw [tF fun v hv=>(List.nodup_cons.mp nd).1 (List.of_mem_zip hv).1,if_neg hk]
  simp
 | p :: P,w :: vs,i+1,m,nd,h1,h2,hk=>by
  show bindC kindOf ((p,w) :: P.zip vs) m x=_
  unfold bindC
  exact rK (i:=i) (List.nodup_cons.mp nd).2 (by simpa using h1) (by simpa using h2) hk
def nB (N:List Str) (vs:List V):St:=vs.map some++List.replicate (N.length - vs.length) none
def aN4 (CX:CXT) (P:Program) (w:World) (K:PySem.W.Frag) (mg:Str->Option Value) (base:Heap) (N:List Str) (qual:Str) (scope:Scope) (f:Addr) (cd:Value) (A:Around) (outer:List Env) (s:Shared) (H:Hp) (E:XK):Cx where
 prog:=P
 w:=w
 K:=K
 mg:=mg
 base:=base
 A:=A.deeper (envOfC qual scope s.heap.objs.size f cd)
 N:=N
 s₀:=s
 H₀:=H
 env:=envOfC qual scope s.heap.objs.size f cd
 outer:=outer
 stack:=envOfC qual scope s.heap.objs.size f cd :: outer
 ex:=[]
 calm:=true
 fn:=fun _=>true
 pn:=[]
 xe:=fun e s'=>wpAny (model P w) (A.deeper (envOfC qual scope s.heap.objs.size f cd)) (leaving (envOfC qual scope s.heap.objs.size f cd) e) (fun _ s''=>CX outer H s E e s'') (fun e' s''=>CX outer H s E e' s'') s'
theorem xN {sc:Scope}{n:Nat}{x:Str}(h:sc.names.lookup x=some .cell):∃ c,(cellsFrom n sc.names []).lookup x=some c:=by
 have q:=PySem.W.cellsFrom_some sc.names n [] (.inl h)
 exact Option.isSome_iff_exists.mp q
theorem aJ6 {CX:CXT}{P:Program}{w:World}{K:PySem.W.Frag}{mg:Str->Option Value}{base:Heap}{N ps:List Str}{qual:Str}{scope:Scope}{f:Addr}{cd:Value}{A:Around}{outer:List Env}{s s1:Shared}{H:Hp}{E:XK}{us:List Value}{vs:List V}
  (S:aS N ps scope) (hd:A.handled=none) (e0:bE2 P w K mg base A outer s H) (hl:vs.length=ps.length) (r:bP vs us)
  (x:InCallC s s.heap.objs.size (bindL (envOfC qual scope s.heap.objs.size f cd).kindOf (ps.zip us) fun _=>none) (cellsFrom (s.heap.objs.size+1) scope.names []) (bindC (envOfC qual scope s.heap.objs.size f cd).kindOf (ps.zip us) fun _=>none) s1) :
  bG (aN4 CX P w K mg base N qual scope f cd A outer s H E) [] (nB N vs) H s1:=by
 have hpl:ps.length<=N.length:=by have:=congrArg List.length S.pre;rw [List.length_take] at this;omega
 obtain ⟨h1,tk,rfl,hk⟩:=x.done
 have noA:∀ b:Addr,b∉(aN4 CX P w K mg base N qual scope f cd A outer s H E).ex:=fun b z=>absurd (show b∈([]:List Addr) from z) (by simp)
 refine ⟨⟨e0.mod,S.kind,rfl,rfl,Nat.le_refl _,fun y z c h1 h2=>?_,fun y hy=>?_,fun y c _ h=>?_,fun _=>hd,Around.frames_deeper e0.frames,.inr ⟨rfl,rfl⟩,fun b z=>absurd z (noA b),e0.bs,e0.bsz,fun b _ _=>noA b,fun b z=>absurd z (noA b),e0.funs,e0.frf⟩,
  rfl,e0.bare,Un.kept hk,⟨_,x.toInCall.ns,fun i y v h1 h2 h3=>?_⟩,fun y c h=>⟨_,x.cell y c h⟩,e0.hok.fresh (Nat.le_refl _),fun y c h=>?_,fun p hp=>absurd (show p∈([]:List (Addr×Obj)) from hp) (by simp),e0.hok.kept hk,?_⟩
 ·exact name_of_addr x.apart (PySem.mem_of_lookup h1) (PySem.mem_of_lookup h2)
 ·have hy:scope.names.lookup y=some .cell\/scope.names.lookup y=some .free:=hy
  rcases hy with hy | hy
  ·exact xN hy
  ·exact absurd rfl (S.nofree _ (PySem.mem_of_lookup hy))
 ·exact Nat.le_of_lt (x.above y c (PySem.mem_of_lookup h))
 ·have hi:i < vs.length:=by
   unfold nB at h2
   by_cases hi:i < vs.length
   ·exact hi
   ·rw [List.getElem?_append_right (by simpa using hi)] at h2
    rw [List.getElem?_replicate] at h2
    split at h2 <;> cases h2
  have ha:vs[i]?=some v:=by
   unfold nB at h2
   rw [List.getElem?_append_left (by simpa using hi),List.getElem?_map] at h2
   cases e:vs[i]? with
   | none=>rw [e] at h2;cases h2
   | some a=>rw [e] at h2;cases h2;rfl
  obtain ⟨u,hu,rv⟩:=r.get ha
  have hp:ps[i]?=some y:=by
   rw [<- S.pre,List.getElem?_take_of_lt (by omega)];exact h1
  have ndP:ps.Nodup:=by rw [<- S.pre];exact S.nd.sublist (List.take_sublist _ _)
  refine ⟨u,rv,?_⟩
  rcases S.par y (List.mem_of_getElem? hp) with k | k
  ·exact .inl ⟨k,rW ndP hp hu k⟩
  ·obtain ⟨c,e⟩:=xN (n:=s.heap.objs.size+1) k
   refine .inr ⟨.inl k,c,e,?_⟩
   have q:=x.cell y c e
   rw [rK ndP hp hu (by show scope.names.lookup y≠_;rw [k];decide)] at q
   exact q
 ·exact e0.hok.fresh (Nat.le_of_lt (x.above y c (PySem.mem_of_lookup h)))
 ·unfold nB
  show _=N.length
  rw [List.length_append,List.length_map,List.length_replicate]
  omega
theorem cE0 {CX:CXT}{P:Program}{w:World}{K:PySem.W.Frag}{mg:Str->Option Value}{base:Heap}{k:Nat}{f:Addr}{name qual:Str}{params:Arguments}{body:List Stmt}{scope:Scope}{dV kV doc pm cdv ct oc:Value}{an od:Option Addr}
  {osl:Array (Option Value)}{N ps:List Str}{sp:Sp}(lk:K.lookup f=some ⟨oc,od,.func (PySem.W.fnOf name qual params body scope dV kV doc pm an cdv ct),osl⟩) (hcd:PySem.W.codeIn K cdv qual=true) (S:aS N ps scope)
  (len:∀ vs H Q E,sp vs H Q E->vs.length=ps.length)
  (hbody:∀ (A:Around) (outer:List Env) (s:Shared) (H:Hp) (vs:List V) (Q:VK) (E:XK),eF k (A.deeper (envOfC qual scope s.heap.objs.size f cdv))->sp vs H Q E ->
   ∃ t,PSs (aN4 CX P w K mg base N qual scope f cdv A outer s H E) body t/\t { nx:=fun _ H'=>Q .non H',rt:=Q } (nB N vs) H) :
  bQ P w K mg base CX (k+1) f (PySem.W.fnOf name qual params body scope dV kV doc pm an cdv ct) ps sp:=by
 refine ⟨len,fun A outer s H args us vs Q E hr e0 hb r hsp=>?_⟩
 have hl:=len _ _ _ _ hsp
 have KX:K.In s.heap:=e0.mod.kin.keeps fun b o e=>(e0.bs b o e).1
 have lim:s.heap.NoLimit:=e0.mod.nolimit.keeps fun b o e=>(e0.bs b o e).1
 have hkind:∀ y∈ps.zip us,scope.names.lookup y.1=some .local\/(scope.names.lookup y.1=some .cell/\((cellsFrom (s.heap.objs.size+1) scope.names []).lookup y.1).isSome=true):=fun ⟨n,v⟩ hy=>by
  rcases S.par n (List.of_mem_zip hy).1 with q | q
  ·exact .inl q
  ·exact .inr ⟨q,PySem.W.cellsFrom_some _ _ _ (.inl q)⟩
 refine codeAny_call_function hr.depth (KX _ _ lk) rfl S.co S.gen rfl (PySem.W.codeRec_of KX hcd) (hb _ _ _ _ ?_)
 refine wpAny_newFunctionEnv_cells S.kind hkind fun env he s1 x=>?_
 subst he
 refine ⟨lim.keeps x.toInCall.keep,codeAny_func ?_⟩
 obtain ⟨t,ht,hq⟩:=hbody A outer s H vs Q E (hr.deeper _) hsp
 have I:bG (aN4 CX P w K mg base N qual scope f cdv A outer s H E) [] (nB N vs) H s1:=aJ6 S hr.hd e0 hl r x
 refine wpAny_mono (ht [] s1 (nB N vs) H _ I hq) (fun fl s' hs=>?_) fun e s' hs=>hs
 have fin:∀ {σ':St}{H':Hp}{v:V}{u:Value},bG (aN4 CX P w K mg base N qual scope f cdv A outer s H E) [] σ' H' s'->bX v u->Q v H'->CE outer P w H s Q u s' :=
  fun {σ' H' v u} J rv q=>⟨v,H',J.os,J.bare,J.base,J.hok,rv,q⟩
 cases fl with
 | ret u =>
  obtain ⟨v,σ',H',J,rv,q⟩:=hs
  exact fin J rv q
 | next =>
  obtain ⟨σ',H',J,q⟩:=hs
  exact fin (v:=V.non) (u:=Value.none) J rfl q
 | brk =>
  obtain ⟨_,_,_,q⟩:=hs
  exact False.elim q
 | cont =>
  obtain ⟨_,_,_,q⟩:=hs
  exact False.elim q
section
variable {X:Cx}{x:Str}{p pos:Pos}{e:Expr}{es:List Expr}{t:TA}{id T:String}{r:List V->Hp->VK->Prop}
def tCB (r:List V->Hp->VK->Prop) (t:TA):TE:=fun σ H Q=>t σ H fun vs H1=>r vs H1 Q
theorem bV (hc:iK X (.builtin id) r) (hg:Gl X x) (hm:X.mg x=none) (hv:bootBuiltins x=some (.builtin id)) (ha:PA X (e :: es) t) (hn:x≠"__name__":=by decide) (hdb:(x == ("__debug__": Str))=false:=by decide)
  (he:starEach (e :: es) X.env=(false,eval e X.env) :: starEach es X.env:=by rfl) (hpl:(backTo pos (starEach es X.env)).any (·.1)=false:=by rfl):PE X (.Call (.Name x p) (e :: es) [] pos) (tCB r t):=by
 intro pins s σ H Q I h
 refine wpAny_Call_Name_kw (jL I hg hm hv ?_ hn hdb)
 exact PyProof.Rows.callWith_builtin1 (dQ (ha pos pins s σ H _ I h) fun us s1 ⟨vs,H1,I1,r1,q1⟩=>hc pins s1 σ H1 vs us Q I1 r1 q1) he hpl
theorem bY (hc:iK X (.type T) r) (hg:Gl X x) (hm:X.mg x=none) (hv:bootBuiltins x=some (.type T)) (ha:PA X (e :: es) t) (hn:x≠"__name__":=by decide) (hdb:(x == ("__debug__": Str))=false:=by decide)
  (he:starEach (e :: es) X.env=(false,eval e X.env) :: starEach es X.env:=by rfl) (hpl:(backTo pos (starEach es X.env)).any (·.1)=false:=by rfl):PE X (.Call (.Name x p) (e :: es) [] pos) (tCB r t):=by
 intro pins s σ H Q I h
 refine wpAny_Call_Name_kw (jL I hg hm hv ?_ hn hdb)
 exact PyProof.Rows.callWith_type1 (dQ (ha pos pins s σ H _ I h) fun us s1 ⟨vs,H1,I1,r1,q1⟩=>hc pins s1 σ H1 vs us Q I1 r1 q1) he hpl
end
section
variable {κ: Type} [DecidableEq κ]
def cM (kvs:List (κ×V)) (k:κ):Option V:=(kvs.find? fun kv=>decide (kv.1=k)).map (·.2)
def dB (kvs:List (κ×V)) (k:κ) (v:V):List (κ×V) :=
 if (kvs.any fun kv=>decide (kv.1=k))=true then kvs.map (fun kv=>if kv.1=k then (kv.1,v) else kv) else kvs++[(k,v)]
theorem qJ {k:κ}:cM ([]:List (κ×V)) k=none:=rfl
theorem dF {p:κ×V}{r:List (κ×V)}{k:κ}(e:p.1=k):cM (p :: r) k=some p.2:=by simp [cM,List.find?_cons,e]
theorem cS {p:κ×V}{r:List (κ×V)}{k:κ}(e:¬ p.1=k):cM (p :: r) k=cM r k:=by simp [cM,List.find?_cons,e]
theorem iW (k:κ):∀ kvs:List (κ×V),(kvs.any fun kv=>decide (kv.1=k))=(cM kvs k).isSome
 | []=>rfl
 | p :: r=>by
  rw [List.any_cons]
  by_cases e:p.1=k
  ·simp only [dF e,decide_eq_true e,Bool.true_or,Option.isSome_some]
  ·rw [cS e,decide_eq_false e,Bool.false_or];exact iW k r
theorem wD (k j:κ) (y:V):∀ kvs:List (κ×V),cM (kvs.map fun kv=>if kv.1=k then (kv.1,y) else kv) j=(cM kvs j).map fun x=>if j=k then y else x
 | []=>rfl
 | p :: r=>by
  have ih:=wD k j y r
  rw [List.map_cons]
  by_cases h:p.1=k
  ·rw [if_pos h]
   by_cases e:p.1=j
   ·rw [dF (p:=(p.1,y)) e,dF e,Option.map_some,if_pos (e.symm.trans h)]
   ·rw [cS (p:=(p.1,y)) e,cS e,ih]
  ·rw [if_neg h]
   by_cases e:p.1=j
   ·rw [dF (p:=p) e,dF e,Option.map_some,if_neg (fun z=>h (e.trans z))]
   ·rw [cS (p:=p) e,cS e,ih]
theorem rD (k j:κ) (y:V):∀ kvs:List (κ×V),cM kvs k=none->cM (kvs++[(k,y)]) j=if j=k then some y else cM kvs j
 | [],_=>by
  by_cases e:k=j
  ·rw [if_pos e.symm];exact dF (p:=(k,y)) e
  ·rw [if_neg (fun z=>e z.symm)];exact cS (p:=(k,y)) e
 | p :: r,hn=>by
  rw [List.cons_append]
  have hk:¬ p.1=k:=fun z=>by rw [dF z] at hn;cases hn
  rw [cS hk] at hn
  have ih:=rD k j y r hn
  by_cases e:p.1=j
  ·rw [dF e,dF e,if_neg (fun z=>hk (e.trans z))]
  ·rw [cS e,cS e,ih]
theorem aT (kvs:List (κ×V)) (k j:κ) (y:V):cM (dB kvs k y) j=if j=k then some y else cM kvs j:=by
 unfold dB
 by_cases a:(kvs.any fun kv=>decide (kv.1=k))=true
 ·rw [if_pos a,wD]
  rw [iW] at a
  by_cases e:j=k
  ·obtain ⟨x,hx⟩:=Option.isSome_iff_exists.mp a
   rw [if_pos e,e,hx,Option.map_some,if_pos rfl]
  ·rw [if_neg e]
   cases cM kvs j with
   | none=>rfl
   | some x=>rw [Option.map_some,if_neg e]
 ·rw [if_neg a]
  refine rD k j y kvs ?_
  rw [iW] at a
  cases q:cM kvs k with
  | none=>rfl
  | some x=>rw [q] at a;exact (a rfl).elim
theorem cK (kvs:List (κ×V)) (k:κ) (v:V):(dB kvs k v).length<=kvs.length+1:=by
 unfold dB
 split
 ·rw [List.length_map];omega
 ·rw [List.length_append,List.length_cons,List.length_nil];omega
theorem pU {kvs:List (κ×V)}{k:κ}(v:V) (h:cM kvs k=none):dB kvs k v=kvs++[(k,v)]:=by
 unfold dB
 rw [iW,h]
 exact if_neg (by decide)
theorem jT.isSome_eq {o:Option V}{u:Option Value}(r:jT o u):o.isSome=u.isSome:=by
 cases o with
 | none=>cases u with
  | none=>rfl
  | some _=>exact (show False from r).elim
 | some _=>cases u with
  | none=>exact (show False from r).elim
  | some _=>rfl
theorem jT.getD {o:Option V}{u:Option Value}{d:V}{d':Value}(r:jT o u) (rd:bX d d'):bX (o.getD d) (u.getD d'):=by
 cases o with
 | none=>cases u with
  | none=>exact rd
  | some _=>exact (show False from r).elim
 | some _=>cases u with
  | none=>exact (show False from r).elim
  | some _=>exact r
theorem KV.val {kvs:List (κ×V)}{vs:List (κ×Value)}(r:KV kvs vs) (k:κ):jT (cM kvs k) (valueAt vs k):=by
 unfold KV at r
 induction r with
 | nil=>exact True.intro
 | @cons p q ps qs h t ih =>
  obtain ⟨h1,h2⟩:=h
  by_cases e:p.1=k
  ·have e':q.1=k:=h1.symm.trans e
   have b:valueAt (q :: qs) k=some q.2:=by simp [valueAt,List.find?_cons,e']
   rw [dF e,b];exact h2
  ·have e':¬ q.1=k:=fun z=>e (h1.trans z)
   have b:valueAt (q :: qs) k=valueAt qs k:=by simp [valueAt,List.find?_cons,e']
   rw [cS e,b];exact ih
theorem KV.any {kvs:List (κ×V)}{vs:List (κ×Value)}(r:KV kvs vs) (k:κ):(kvs.any fun kv=>decide (kv.1=k))=vs.any fun kv=>decide (kv.1=k):=by
 unfold KV at r
 induction r with
 | nil=>rfl
 | cons h t ih=>rw [List.any_cons,List.any_cons,ih,h.1]
theorem KV.repl {kvs:List (κ×V)}{vs:List (κ×Value)}(r:KV kvs vs) (k:κ) {y:V}{u:Value}(ry:bX y u) :
  KV (kvs.map fun kv=>if kv.1=k then (kv.1,y) else kv) (vs.map fun kv=>if kv.1=k then (kv.1,u) else kv):=by
 unfold KV at r ⊢
 induction r with
 | nil=>exact .nil
 | @cons p q ps qs h t ih =>
  rw [List.map_cons,List.map_cons]
  refine .cons ?_ ih
  obtain ⟨h1,h2⟩:=h
  by_cases e:p.1=k
  ·rw [if_pos e,if_pos (h1.symm.trans e)];exact ⟨h1,ry⟩
  ·rw [if_neg e,if_neg (fun z=>e (h1.trans z))];exact ⟨h1,h2⟩
theorem KV.put {kvs:List (κ×V)}{vs:List (κ×Value)}(r:KV kvs vs) (k:κ) {y:V}{u:Value}(ry:bX y u):KV (dB kvs k y) (stored vs k u):=by
 unfold dB stored
 rw [r.any k]
 by_cases e:(vs.any fun kv=>decide (kv.1=k))=true
 ·rw [if_pos e,if_pos e];exact r.repl k ry
 ·rw [if_neg e,if_neg e];exact Paired.snoc r ⟨rfl,ry⟩
theorem KV.length {kvs:List (κ×V)}{vs:List (κ×Value)}(r:KV kvs vs):kvs.length=vs.length:=Paired.length r
end
theorem qL {P:Program}{w:World}{k:Key}{u:Value}(r:bX (kV k) u):(bH P w).is k u=true:=by
 cases k with
 | inl i=>obtain ⟨t,e⟩:=(show ∃ t,u=Value.int i t from r);subst e;exact wS P w i t
 | inr x=>obtain ⟨t,e⟩:=(show ∃ t,u=Value.str x t from r);subst e;exact xG P w x t
theorem rM {P:Program}{w:World}:∀ {ks:List Key}{us:List Value},bP (ks.map kV) us->ItemsAre (bH P w) ks us
 | [],_,r=>by rw [List.map_nil] at r;cases r;exact .nil
 | k :: ks,_,r=>by
  rw [List.map_cons] at r
  cases r with
  | cons h t=>exact .cons (qL h) (rM t)
abbrev KT (H:Hp):List (List Key×V)->List (List Key×Addr×Value)->Prop:=Paired fun p q=>p.1=q.1/\H q.2.1=some (.tup (p.1.map kV))/\bX p.2 q.2.2
theorem KT.val {H:Hp}{kvs:List (List Key×V)}{xs:List (List Key×Addr×Value)}(r:KT H kvs xs) (k:List Key):jT (cM kvs k) ((atKey xs k).map (·.2)):=by
 induction r with
 | nil=>exact True.intro
 | @cons p q ps qs h t ih =>
  obtain ⟨h1,_,h2⟩:=h
  by_cases e:p.1=k
  ·have e':q.1=k:=h1.symm.trans e
   have b:atKey (q :: qs) k=some q.2:=by simp [atKey,List.find?_cons,e']
   rw [dF e,b];exact h2
  ·have e':¬ q.1=k:=fun z=>e (h1.trans z)
   have b:atKey (q :: qs) k=atKey qs k:=by simp [atKey,List.find?_cons,e']
   rw [cS e,b];exact ih
theorem KT.repl {H:Hp}{kvs:List (List Key×V)}{xs:List (List Key×Addr×Value)}(r:KT H kvs xs) (k:List Key) {y:V}{u:Value}(ry:bX y u) :
  KT H (kvs.map fun kv=>if kv.1=k then (kv.1,y) else kv) (xs.map (putAt k u)):=by
 induction r with
 | nil=>exact .nil
 | @cons p q ps qs h t ih =>
  rw [List.map_cons,List.map_cons]
  refine .cons ?_ ih
  obtain ⟨h1,h2,h3⟩:=h
  unfold putAt
  by_cases e:p.1=k
  ·rw [if_pos e,if_pos (h1.symm.trans e)];exact ⟨h1,h2,ry⟩
  ·rw [if_neg e,if_neg (fun z=>e (h1.trans z))];exact ⟨h1,h2,h3⟩
theorem KT.put {H:Hp}{kvs:List (List Key×V)}{xs:List (List Key×Addr×Value)}(r:KT H kvs xs) (k:List Key) {b:Addr}{y:V}{u:Value}(hb:H b=some (.tup (k.map kV))) (ry:bX y u) :
  KT H (dB kvs k y) (storedH xs k b u):=by
 have e:(kvs.any fun kv=>decide (kv.1=k))=(atKey xs k).isSome:=by
  rw [iW,(r.val k).isSome_eq,Option.isSome_map]
 unfold dB storedH
 rw [e]
 by_cases q:(atKey xs k).isSome=true
 ·rw [if_pos q,if_pos q];exact r.repl k ry
 ·rw [if_neg q,if_neg q];exact Paired.snoc r ⟨rfl,hb,ry⟩
theorem KT.keeps {H H':Hp}{kvs:List (List Key×V)}{xs:List (List Key×Addr×Value)}(r:KT H kvs xs) (ht:∀ b ys,H b=some (.tup ys)->H' b=some (.tup ys)):KT H' kvs xs :=
 Paired.mapP r fun _ _ z=>⟨z.1,ht _ _ z.2.1,z.2.2⟩
section
variable {P:Program}{w:World}{H:Hp}{h:Heap}{a:Addr}
theorem bJ3 {u:HO}(ok:lK P w H h) (e:Rd H a u):dL P w H h a u:=e.ok ok
theorem rO {kvs:List (Key×V)}(ok:lK P w H h) (e:Rd H a (.dK kvs)):kvs.length<=sizeLine/\(a == sysModules)=false/\∃ vs,KV kvs vs/\h.DictOf (bH P w) a vs :=
 show dL P w H h a (.dK kvs) from bJ3 ok e
theorem aE4 {kvs:List (Key×V)}(ok:lK P w H h) (e:H a=some (.dK kvs)):kvs.length<=sizeLine/\(a == sysModules)=false/\∃ vs,KV kvs vs/\h.DictOf (bH P w) a vs:=rO ok (.inl e)
theorem pY {ks:List Key}(ok:lK P w H h) (e:H a=some (.tup (ks.map kV))):(tupleKind (bH P w)).is h ks a:=by
 obtain ⟨_,its,r,o,h1,h2,n,h3,_⟩:=(show dL P w H h a (.tup (ks.map kV)) from ok a _ e)
 exact ⟨o,its.toArray,n,h1,h2,h3,by simpa using rM r⟩
theorem rJ {kvs:List (List Key×V)}(ok:lK P w H h) (e:Rd H a (.dT kvs)):kvs.length<=sizeLine/\(a == sysModules)=false /\
  ∃ xs,KT H kvs xs/\h.DictOfH (tupleKind (bH P w)) a xs:=by
 obtain ⟨z,y,xs,r,o,es,ep,h1,h2,h3,h4,h5⟩:=(show dL P w H h a (.dT kvs) from bJ3 ok e)
 refine ⟨z,y,xs,r,o,es,ep,h1,h2,h3,h4,fun x hx=>?_,h5⟩
 have all:∀ {l:List (List Key×V)}{m:List (List Key×Addr×Value)},KT H l m->∀ x∈m,(tupleKind (bH P w)).is h x.1 x.2.1:=by
  intro l m q
  induction q with
  | nil=>intro x hx;exact nomatch hx
  | @cons p q ps qs hq t ih =>
   intro x hx
   rcases List.mem_cons.mp hx with e | hx
   ·subst e
    exact pY ok (by rw [<- hq.1];exact hq.2.1)
   ·exact ih x hx
 exact all r x hx
theorem bZ0 {kvs:List (List Key×V)}(ok:lK P w H h) (e:H a=some (.dT kvs)):kvs.length<=sizeLine/\(a == sysModules)=false /\
  ∃ xs,KT H kvs xs/\h.DictOfH (tupleKind (bH P w)) a xs:=rJ ok (.inl e)
end
def eE (H:Hp) (a:Addr) (y:V) (r:Option V):Prop :=
 (∃ kvs k,Rd H a (.dK kvs)/\y=kV k/\r=cM kvs k)\/∃ kvs k b,Rd H a (.dT kvs)/\y= .ref b/\H b=some (.tup (k.map kV))/\r=cM kvs k
def jI (H:Hp) (a:Addr) (y v:V) (H':Hp):Prop :=
 (∃ kvs k,H a=some (.dK kvs)/\y=kV k/\kvs.length < sizeLine/\H'=aW H a (.dK (dB kvs k v))) \/
 ∃ kvs k b,H a=some (.dT kvs)/\y= .ref b/\H b=some (.tup (k.map kV))/\kvs.length < sizeLine/\H'=aW H a (.dT (dB kvs k v))
theorem eE.k {H:Hp}{a:Addr}{kvs:List (Key×V)}{k:Key}(e:H a=some (.dK kvs)):eE H a (kV k) (cM kvs k):= .inl ⟨kvs,k,.inl e,rfl,rfl⟩
theorem eE.t {H:Hp}{a b:Addr}{kvs:List (List Key×V)}{k:List Key}(e:H a=some (.dT kvs)) (eb:H b=some (.tup (k.map kV))):eE H a (.ref b) (cM kvs k):= .inr ⟨kvs,k,b,.inl e,rfl,eb,rfl⟩
theorem jI.k {H:Hp}{a:Addr}{kvs:List (Key×V)}{k:Key}{v:V}(e:H a=some (.dK kvs)) (hl:kvs.length < sizeLine):jI H a (kV k) v (aW H a (.dK (dB kvs k v))):= .inl ⟨kvs,k,e,rfl,hl,rfl⟩
theorem jI.t {H:Hp}{a b:Addr}{kvs:List (List Key×V)}{k:List Key}{v:V}(e:H a=some (.dT kvs)) (eb:H b=some (.tup (k.map kV))) (hl:kvs.length < sizeLine) :
  jI H a (.ref b) v (aW H a (.dT (dB kvs k v))):= .inr ⟨kvs,k,b,e,rfl,eb,hl,rfl⟩
section
variable {X:Cx}{pins:List (Addr×Obj)}{σ: St}{H:Hp}{s:Shared}{a:Addr}{y v:V}{u r:Value}{o:Option V}{A:Around}{E:Value->Shared->Prop}
theorem bG.big (I:bG X pins σ H s):sysModules < s.heap.objs.size:=by
 have h:mainGlobals < s.heap.objs.size:=(I.mod.glob.keeps I.bk).lt
 exact Nat.lt_trans (by decide) h
theorem aN5 {Q:Value->Shared->Prop}(hu:A.units+1 < cLine) (I:bG X pins σ H s) (g:eE H a y (some v)) (ry:bX y u) (h:∀ w' s',bG X pins σ H s'->bX v w'->Q w' s') :
  wpAny (model X.prog X.w) A (getItem (.ref a) u) Q E s:=by
 rcases g with ⟨kvs,k,e,ey,l⟩ | ⟨kvs,k,b,e,ey,eb,l⟩
 ·subst ey
  obtain ⟨z,hd,vs,rel,dd⟩:=rO I.hok e
  obtain ⟨w',hw,rw'⟩:=jT.some_of (v:=v) (o:=valueAt vs k) (by rw [l];exact rel.val k)
  exact wpAny_getItem_of (qL ry) dd.mapOf hw (h w' _ (I.tok _) rw')
 ·subst ey
  cases (show u=Value.ref b from ry)
  obtain ⟨z,hd,xs,rel,dd⟩:=rJ I.hok e
  obtain ⟨w',hw,rw'⟩:=jT.some_of (v:=v) (o:=(atKey xs k).map (·.2)) (by rw [l];exact rel.val k)
  obtain ⟨p,hp,hp2⟩:=Option.map_eq_some_iff.mp hw
  refine wpAny_getItem_heap (tupleKind_room_in1 hu) (pY I.hok eb) dd hp ?_
  rw [hp2]
  exact h w' _ (I.tok _) rw'
theorem bB5 {Q:Value->Shared->Prop}(hu:A.units+1 < cLine) (I:bG X pins σ H s) (g:eE H a y o) (ry:bX y u) (h:∀ s',bG X pins σ H s'->Q (.bool (!o.isSome)) s') :
  wpAny (model X.prog X.w) A (compareOp .NotIn u (.ref a)) Q E s:=by
 rcases g with ⟨kvs,k,e,ey,l⟩ | ⟨kvs,k,b,e,ey,eb,l⟩
 ·subst ey
  obtain ⟨z,hd,vs,rel,dd⟩:=rO I.hok e
  refine wpAny_notIn_of (qL ry) hd dd.mapOf ?_
  rw [<- (rel.val k).isSome_eq, <- l]
  exact h _ (I.tok _)
 ·subst ey
  cases (show u=Value.ref b from ry)
  obtain ⟨z,hd,xs,rel,dd⟩:=rJ I.hok e
  refine wpAny_notIn_heap (tupleKind_room_in1 hu) (pY I.hok eb) hd dd ?_
  have q:=(rel.val k).isSome_eq
  rw [Option.isSome_map] at q
  rw [<- q, <- l]
  exact h _ (I.tok _)
theorem oF {h':Heap}{t':Nat}{ob:HO}(I:bG X pins σ H s) (mu:Mut (H a)) (hs:Heap.SameBut a s.heap h') (he:∃ q,h'.get? a=some q) (new:dL X.prog X.w (aW H a ob) h' a ob) :
  bG X pins σ (aW H a ob) { s with heap:=h',toks:=t' } :=
 I.write (x:=a) (e:=a) mu (.inl rfl) (fun b q hb z=>(hs.2 b hb).trans z) he new
theorem zJ {P:Program}{w:World}{H':Hp}{h':Heap}{kvs:List (Key×V)}{vs:List (Key×Value)}(z:kvs.length<=sizeLine) (hd:(a == sysModules)=false) (rel:KV kvs vs) (dd:h'.DictOf (bH P w) a vs) :
  dL P w H' h' a (.dK kvs):=⟨z,hd,vs,rel,dd⟩
theorem aL4 {H':Hp}{Q:Unit->Shared->Prop}(hu:A.units+1 < cLine) (I:bG X pins σ H s) (g:jI H a y v H') (ry:bX y u) (rv:bX v r) (h:∀ s',bG X pins σ H' s'->Q () s') :
  wpAny (model X.prog X.w) A (setItem (.ref a) u r) Q E s:=by
 rcases g with ⟨kvs,k,e,ey,l,eH⟩ | ⟨kvs,k,b,e,ey,eb,l,eH⟩
 ·subst ey eH
  obtain ⟨z,hd,vs,rel,dd⟩:=aE4 I.hok e
  have hz:vs.length<=sizeLine:=by rw [<- rel.length];exact z
  have hl:(dB kvs k v).length<=sizeLine:=by have:=cK kvs k v;omega
  refine wpAny_setItem_pairs (hsz:=hz) (qL ry) dd fun h' dd' hs=>h _ ?_
  have he:∃ q,h'.get? a=some q:=let ⟨q,_,_,hq,_⟩:=dd';⟨q,hq⟩
  exact oF I (by rw [e];exact True.intro) hs he (zJ hl hd (rel.put k rv) dd')
 ·subst ey eH
  cases (show u=Value.ref b from ry)
  obtain ⟨z,hd,xs,rel,dd⟩:=bZ0 I.hok e
  have hz:xs.length<=sizeLine:=by rw [<- Paired.length rel];exact z
  have hl:(dB kvs k v).length<=sizeLine:=by have:=cK kvs k v;omega
  refine wpAny_setItem_heap (hsz:=hz) (tupleKind_room_in1 hu) (pY I.hok eb) dd fun h' dd' hs=>h _ ?_
  obtain ⟨q,es,ep,hq,h2,h3,h4,_,h5⟩:=dd'
  refine oF I (by rw [e];exact True.intro) hs ⟨q,hq⟩ ⟨hl,hd,_,(rel.put k eb rv).keeps fun c ys ec=>?_,q,es,ep,hq,h2,h3,h4,h5⟩
  rw [aQ (fN ec e (fun z=>nomatch z))]
  exact ec
end
section
variable {X:Cx}{pins:List (Addr×Obj)}{σ: St}{H:Hp}{s:Shared}{a:Addr}{kvs:List (Key×V)}{k:Key}{u:Value}{A:Around}{E:Value->Shared->Prop}
end
def bY7 (i:Expr):Prop:=∀ ov iv,subscripted i false ov iv=operate [ov,iv] (getItem ov iv)
theorem bC4 {prog:Program}{w:World}{A:Around}{E:Value->Shared->Prop}{s:Shared}{env:Env}{value slice:Expr}{pos:Pos}{T id:String}{Q:Value->Shared->Prop}
  (hl:typeLookup (.type T) "__getitem__"=pure (some (.builtin id))) (hs:bY7 slice)
  (h:wpAny (model prog w) A (eval value env) (fun o s₁=>wpAny (model prog w) A (eval slice env) (fun i s₂=>s₂.TypeIs o T/\wpAny (model prog w) A (getItem o i) Q E s₂) E s₁) E s) :
  wpAny (model prog w) A (eval (.Subscript value slice pos) env) Q E s:=by
 refine Subscript_ (wpAny_mono h (fun o s₁ h₁=>wpAny_mono h₁ (fun i s₂ h₂=>?_) fun _ _ x=>x) fun _ _ x=>x)
 obtain ⟨hT,h₂⟩:=h₂
 unfold subscriptTail
 refine wpAny_bind ?_
 rw [getitemInPython_of_ne hT.not_modules]
 refine wpAny_bind (wpAny_specialOf hT hl ?_)
 have fin:wpAny (model prog w) A (subscripted slice false o i) (fun r s₃=>wpAny (model prog w) A (letTemporaryGo value o r >>= fun _=>pure r) Q E s₃) E s₂:=by
  rw [hs o i]
  exact wpAny_operating (wpAny_mono h₂ (fun r s₃ h₃=>wpAny_bind (wpAny_letTemporaryGo (wpAny_pure h₃))) fun _ _ x=>x)
 first
  | exact wpAny_pure (wpAny_bind fin)
  | exact wpAny_bind (wpAny_pure (wpAny_bind fin))
  | exact wpAny_bind fin
theorem vY {X:Cx}{pins:List (Addr×Obj)}{σ: St}{H:Hp}{s:Shared}{a:Addr}{y:V}{o:Option V}(I:bG X pins σ H s) (g:eE H a y o):s.TypeIs (.ref a) "dict":=by
 rcases g with ⟨kvs,k,e,_,_⟩ | ⟨kvs,k,b,e,_,_,_⟩
 ·obtain ⟨_,_,vs,_,dd⟩:=rO I.hok e
  exact dd.typeIs
 ·obtain ⟨_,_,xs,_,dd⟩:=rJ I.hok e
  exact dd.typeIs
def bK5 (td ty:TE):TE:=fun σ H Q=>td σ H fun x H1=>ty σ H1 fun y H2=>∃ a v,x= .ref a/\eE H2 a y (some v)/\Q v H2
def bC8 (ty td:TE):TE:=fun σ H Q=>ty σ H fun y H1=>td σ H1 fun x H2=>∃ a o,x= .ref a/\eE H2 a y o/\Q (.bl (!o.isSome)) H2
def bI9 (td ty tv:TE):TS:=fun D σ H=>tv σ H fun v H1=>td σ H1 fun x H2=>ty σ H2 fun y H3=>∃ a H4,x= .ref a/\jI H3 a y v H4/\D.nx σ H4
section
variable {X:Cx}{o i e value:Expr}{pos pos' tpos:Pos}{td ty tv:TE}
theorem cB (hu:X.A.units+1 < cLine) (ho:PE X o td) (hi:PE X i ty) (hs:bY7 i):PE X (.Subscript o i pos) (bK5 td ty):=by
 intro pins s σ H Q I h
 refine bC4 PySem.F.slot_dict_getitem.lookup hs (dQ (ho pins s σ H _ I h) fun u s1 ⟨x,H1,I1,rx,q1⟩=>dQ (hi pins s1 σ H1 _ I1 q1) fun iv s2 ⟨y,H2,I2,ry,a,v,ex,g,q2⟩=>?_)
 subst ex
 obtain rfl:u=Value.ref a:=rx
 exact ⟨vY I2 g,aN5 hu I2 g ry fun w' s3 I3 rw'=>⟨v,H2,I3,rw',q2⟩⟩
theorem aG1 (hu:X.A.units+1 < cLine) (hi:PE X i ty) (ho:PE X o td):PC X .NotIn i o (bC8 ty td):=by
 intro pins s σ H Q I h
 refine dQ (hi pins s σ H _ I h) fun iv s1 ⟨y,H1,I1,ry,q1⟩=>dQ (ho pins s1 σ H1 _ I1 q1) fun u s2 ⟨x,H2,I2,rx,a,ov,ex,g,q2⟩=>?_
 subst ex
 obtain rfl:u=Value.ref a:=rx
 exact bB5 hu I2 g ry fun s3 I3=>⟨.bl (!ov.isSome),H2,I3,rfl,q2⟩
theorem dW (hu:X.A.units+1 < cLine) (ho:PE X o td) (hi:PE X i ty) (hv:PE X value tv) (hs:swapsWith value (some (.Subscript o i pos')) pos.line X.env=pure false) :
  PS X (.Assign [.Subscript o i pos'] value pos) (bI9 td ty tv):=by
 intro pins s σ H D I h
 refine wpAny_Assign_Subscript (dQ (hv pins s σ H _ I h) fun r s1 ⟨v,H1,I1,rv,q1⟩=>dQ (ho pins s1 σ H1 _ I1 q1) fun u s2 ⟨x,H2,I2,rx,q2⟩=>dQ (hi pins s2 σ H2 _ I2 q2) fun iv s3 ⟨y,H3,I3,ry,a,H4,ex,g,q3⟩=>?_) hs
 subst ex
 obtain rfl:u=Value.ref a:=rx
 exact aL4 hu I3 g ry rv fun s4 I4=>⟨σ,H4,I4,q3⟩
end
theorem wN {P:Program}{w:World}{H:Hp}(h:Heap) (hb:sysModules < h.objs.size):dL P w H (h.push { cls:= .type "dict",data:= .dict #[] }) h.objs.size (.dK []) :=
 ⟨Nat.zero_le _,beq_eq_false_iff_ne.mpr (Ne.symm (Nat.ne_of_lt hb)),[],.nil,Heap.DictOf.new h⟩
theorem aS2 {P:Program}{w:World}{H:Hp}(h:Heap) (hb:sysModules < h.objs.size):dL P w H (h.push { cls:= .type "dict",data:= .dict #[] }) h.objs.size (.dT []) :=
 ⟨Nat.zero_le _,beq_eq_false_iff_ne.mpr (Ne.symm (Nat.ne_of_lt hb)),[],.nil,_, #[],0,Heap.get?_push_size _ rfl,⟨rfl,rfl,rfl⟩,rfl,rfl,List.nodup_nil⟩
def tDNewK:TE:=fun _ H Q=>∀ p,H p=none->Q (.ref p) (aW H p (.dK []))
def tDNewT:TE:=fun _ H Q=>∀ p,H p=none->Q (.ref p) (aW H p (.dT []))
section
variable {X:Cx}{pos:Pos}
theorem vC:PE X (.Dict [] [] pos) tDNewK:=fun pins s σ H Q I h =>
 wpAny_Dict_empty ⟨.ref s.heap.objs.size,_,I.laid (a:=s.heap.objs.size) (o:= .dK []) (t':=s.toks) (fun _ _ q=>Heap.get?_push_of_some _ q) (Nat.le_refl _) (wN s.heap I.big),rfl,h _ (I.hok.fresh (Nat.le_refl _))⟩
theorem aU6:PE X (.Dict [] [] pos) tDNewT:=fun pins s σ H Q I h =>
 wpAny_Dict_empty ⟨.ref s.heap.objs.size,_,I.laid (a:=s.heap.objs.size) (o:= .dT []) (t':=s.toks) (fun _ _ q=>Heap.get?_push_of_some _ q) (Nat.le_refl _) (aS2 s.heap I.big),rfl,h _ (I.hok.fresh (Nat.le_refl _))⟩
end
def yH:List (TE×TE)->St->Hp->(List (V×V)->Hp->Prop)->Prop
 | [],_,H,Q=>Q [] H
 | (tk,tv) :: r,σ,H,Q=>tk σ H fun x H1=>tv σ H1 fun y H2=>yH r σ H2 fun ps H3=>Q ((x,y) :: ps) H3
abbrev VV:List (V×V)->List (Value×Value)->Prop:=Paired fun p q=>bX p.1 q.1/\bX p.2 q.2
def PPs (X:Cx) (pos:Pos) (gA:List (Option Expr)) (values:List Expr) (trs:List (TE×TE)):Prop :=
 ∀ (pins:List (Addr×Obj)) (s:Shared) (σ: St) (H:Hp) (Q:List (V×V)->Hp->Prop),bG X pins σ H s->yH trs σ H Q ->
  wpAny (model X.prog X.w) X.A (evalPairs (pairTrees gA values X.env pos)) (fun vs s'=>∃ ps H',bG X pins σ H' s'/\VV ps vs/\Q ps H') X.xe s
theorem nR {X:Cx}{pos:Pos}:PPs X pos [] [] []:=fun pins s σ H Q I h=>pairTrees_nil_walk ⟨[],H,I,.nil,h⟩
theorem dJ {X:Cx}{pos:Pos}{k v:Expr}{ks:List (Option Expr)}{vs:List Expr}{tk tv:TE}{trs:List (TE×TE)}(hk:PE X k tk) (hv:PE X v tv) (hr:PPs X pos ks vs trs) :
  PPs X pos (some k :: ks) (v :: vs) ((tk,tv) :: trs):=fun pins s σ H Q I h =>
 pairTrees_cons_walk (dQ (hk pins s σ H _ I h) fun u s1 ⟨x,H1,I1,rx,q1⟩=>dQ (hv pins s1 σ H1 _ I1 q1) fun w2 s2 ⟨y,H2,I2,ry,q2⟩ =>
  dQ (hr pins s2 σ H2 _ I2 q2) fun ws s3 ⟨ps,H3,I3,rel,q3⟩=>⟨(x,y) :: ps,H3,I3,.cons ⟨rx,ry⟩ rel,q3⟩)
def eJ (kvs more:List (Key×V)):List (Key×V):=more.foldl (fun acc kv=>dB acc kv.1 kv.2) kvs
theorem KV.merge:∀ {more:List (Key×V)}{rs:List (Key×Value)}{kvs:List (Key×V)}{vs:List (Key×Value)},KV more rs->KV kvs vs->KV (eJ kvs more) (merged vs rs):=by
 intro more rs kvs vs r
 unfold KV at r
 induction r generalizing kvs vs with
 | nil=>intro q;exact q
 | @cons p q ps qs h t ih =>
  intro r0
  have e:KV (dB kvs p.1 p.2) (stored vs q.1 q.2):=by
   have:=r0.put p.1 h.2
   rw [<- h.1];exact this
  exact ih e
theorem kY:∀ (more kvs:List (Key×V)),(eJ kvs more).length<=kvs.length+more.length
 | [],kvs=>by show kvs.length<=kvs.length+0;omega
 | p :: r,kvs=>by
  have h1:=kY r (dB kvs p.1 p.2)
  have h2:=cK kvs p.1 p.2
  show (eJ (dB kvs p.1 p.2) r).length<=_
  rw [List.length_cons];omega
theorem pL {P:Program}{w:World}:∀ {kvs:List (Key×V)}{ws:List (Value×Value)},VV (kvs.map fun kv=>(kV kv.1,kv.2)) ws->∃ rs,Carries (bH P w) ws rs/\KV kvs rs
 | [],_,r=>by rw [List.map_nil] at r;cases r;exact ⟨[],True.intro,.nil⟩
 | p :: kvs,_,r=>by
  rw [List.map_cons] at r
  cases r with
  | @cons a b as bs h t =>
   obtain ⟨rs,c,q⟩:=pL (P:=P) (w:=w) t
   obtain ⟨b1,b2⟩:=b
   exact ⟨(p.1,b2) :: rs,⟨qL h.1,rfl,c⟩,.cons ⟨rfl,h.2⟩ q⟩
def bX3 (trs:List (TE×TE)):TE:=fun σ H Q=>∀ p,H p=none->yH trs σ (aW H p (.dK [])) fun ps H2=>H2 p=some (.dK [])/\∃ kvs:List (Key×V),ps=kvs.map (fun kv=>(kV kv.1,kv.2))/\kvs.length<=15/\Q (.ref p) (aW H2 p (.dK (eJ [] kvs)))
theorem oK {X:Cx}{pos:Pos}{gA:List (Option Expr)}{values:List Expr}{trs:List (TE×TE)}(h:PPs X pos gA values trs) (hall:gA.all (·.isSome)=true) (hl:gA.length=values.length) (h0:gA≠[])
  (h15:gA.length<=15):PE X (.Dict gA values pos) (bX3 trs):=by
 intro pins s σ H Q I q
 have hn:=I.hok.fresh (Nat.le_refl s.heap.objs.size)
 have I1:=I.laid (a:=s.heap.objs.size) (o:= .dK []) (h':=s.heap.push { cls:= .type "dict",data:= .dict #[] }) (t':=s.toks) (fun _ _ q=>Heap.get?_push_of_some _ q) (Nat.le_refl _) (wN s.heap I.big)
 refine wpAny_Dict_walk (knd:=bH X.prog X.w) hall hl h0 h15 (dQ (h pins _ σ _ _ I1 (q _ hn)) fun ws s2 ⟨ps,H2,I2,rel,e,kvs,ep,lk,q2⟩=>?_)
 subst ep
 obtain ⟨rs,c,rk⟩:=pL (P:=X.prog) (w:=X.w) rel
 obtain ⟨z,hd,vs0,r0,dd⟩:=aE4 I2.hok e
 cases r0
 refine ⟨rs,c,dd,fun h' dd' hs=>⟨.ref s.heap.objs.size,_,?_,rfl,q2⟩⟩
 have hz:(eJ [] kvs).length<=sizeLine:=by
  have h1:=kY kvs []
  rw [List.length_nil] at h1
  rw [sizeLine_eq];omega
 have he:∃ q,h'.get? s.heap.objs.size=some q:=let ⟨q,_,_,hq,_⟩:=dd';⟨q,hq⟩
 exact oF I2 (by rw [e];exact True.intro) hs he (zJ hz hd (rk.merge .nil) dd')
structure M2 (X:Cx) (o:Expr) (m:Str) (apos:Pos) (e f:Expr) (cpos:Pos):Prop where
 base:attributeBase o m X.env (eval o X.env)=eval o X.env
 few:((backTo cpos (starEach [e,f] X.env)).all (fun x=> !x.1) && (backToKw cpos (keywordEach [] X.env)).all (fun x=>x.1.isSome)
  && decide (([e,f]:List Expr).length+([]:List Keyword).length+(if ([]:List Keyword).isEmpty then 0 else 1) < 30))=true
 line:(apos.endLine == cpos.line)=true
 trees:backTo cpos (starEach [e,f] X.env)=[(false,eval e X.env),(false,eval f X.env)]
def IsD (H:Hp) (a:Addr):Prop:=(∃ kvs,Rd H a (.dK kvs))\/∃ kvs,Rd H a (.dT kvs)
theorem aR9 {X:Cx}{pins:List (Addr×Obj)}{σ: St}{H:Hp}{s:Shared}{a:Addr}(I:bG X pins σ H s) (d:IsD H a) :
  s.TypeIs (.ref a) "dict"/\(∀ b,Value.ref a= .ref b->∃ ob,s.heap.get? b=some ob/\ob.dict=none)/\(a == sysModules)=false:=by
 rcases d with ⟨kvs,e⟩ | ⟨kvs,e⟩
 ·obtain ⟨_,hd,vs,_,dd⟩:=rO I.hok e
  refine ⟨dd.typeIs,fun b q=>?_,hd⟩
  cases q
  obtain ⟨ob,_,_,h1,h2,_⟩:=dd
  exact ⟨ob,h1,h2.2.1⟩
 ·obtain ⟨_,hd,xs,_,dd⟩:=rJ I.hok e
  refine ⟨dd.typeIs,fun b q=>?_,hd⟩
  cases q
  obtain ⟨ob,_,_,h1,h2,_⟩:=dd
  exact ⟨ob,h1,h2.2.1⟩
section
variable {X:Cx}{pins:List (Addr×Obj)}{σ: St}{H:Hp}{s:Shared}{a:Addr}{y d:V}{u r:Value}{o:Option V}{A:Around}{E:Value->Shared->Prop}
theorem bU7 {Q:Value->Shared->Prop}(hu:A.units+1 < cLine) (I:bG X pins σ H s) (g:eE H a y o) (ry:bX y u) (rd:bX d r) (h:∀ w' s',bG X pins σ H s'->bX (o.getD d) w'->Q w' s') :
  wpAny (model X.prog X.w) A (call (.builtin "dict.get") [.ref a,u,r]) Q E s:=by
 rcases g with ⟨kvs,k,e,ey,l⟩ | ⟨kvs,k,b,e,ey,eb,l⟩
 ·subst ey
  obtain ⟨z,hd,vs,rel,dd⟩:=rO I.hok e
  refine call_meetsIn PySem.F.slot_dict_get dd.typeIs PySem.F.entry_dict_get (PySem.F.args_dict_get_3 _ _ _) (meets_dict_get_default (bH X.prog X.w) a (qL ry) hd r) ⟨_,dd.mapOf,h _ _ (I.tok _) ?_⟩
  rw [l]
  exact (rel.val k).getD rd
 ·subst ey
  cases (show u=Value.ref b from ry)
  obtain ⟨z,hd,xs,rel,dd⟩:=rJ I.hok e
  refine call_meetsIn PySem.F.slot_dict_get dd.typeIs PySem.F.entry_dict_get (PySem.F.args_dict_get_3 _ _ _) (meetsH_dict_get_default (tupleKind (bH X.prog X.w)) a b hd r) ⟨tupleKind_room_in1 hu,k,xs,pY I.hok eb,dd,h _ _ (I.tok _) ?_⟩
  rw [l]
  exact (rel.val k).getD rd
end
def bM4 (td ty tx:TE):TE:=fun σ H Q=>td σ H fun x H1=>∃ a,x= .ref a/\IsD H1 a/\ty σ H1 fun y H2=>tx σ H2 fun z H3=>∃ o,eE H3 a y o/\Q (o.getD z) H3
section
variable {X:Cx}{o e f:Expr}{apos cpos:Pos}{td ty tx:TE}
theorem xH (hu:X.A.units+1 < cLine) (ho:PE X o td) (he:PE X e ty) (hf:PE X f tx) (m:M2 X o "get" apos e f cpos):PE X (.Call (.Attribute o "get" apos) [e,f] [] cpos) (bM4 td ty tx):=by
 intro pins s σ H Q I h
 refine wpAny_Call_method m.base m.few m.line PySem.F.plainAttrs_dict PySem.F.slot_dict_get PySem.F.type_dict_get (dQ (ho pins s σ H _ I h) fun u s1 ⟨x,H1,I1,rx,a,ex,d,q1⟩=>?_)
 subst ex
 obtain rfl:u=Value.ref a:=rx
 obtain ⟨t1,t2,_⟩:=aR9 I1 d
 refine ⟨t1,t2,?_⟩
 rw [m.trees]
 refine Calls.callWith_builtin rfl (Calls.evalArgs_plain (Calls.spliced_cons (dQ (he pins s1 σ H1 _ I1 q1) fun iv s2 ⟨y,H2,I2,ry,q2⟩ =>
  Calls.spliced_cons (dQ (hf pins s2 σ H2 _ I2 q2) fun fv s3 ⟨z,H3,I3,rz,ov,g,q3⟩=>Calls.spliced_nil ?_))))
 exact bU7 hu I3 g ry rz fun w' s4 I4 rw'=>⟨_,H3,I4,rw',q3⟩
end
section
variable {X:Cx}{pins:List (Addr×Obj)}{σ: St}{H:Hp}{s:Shared}{a:Addr}{kvs:List (Key×V)}{A:Around}{E:Value->Shared->Prop}
end
section
variable {X:Cx}{pins:List (Addr×Obj)}{σ: St}{H:Hp}{s:Shared}{a:Addr}{y:V}{u:Value}{A:Around}{E:Value->Shared->Prop}
end
end L2
namespace HT
open PySem PyProof.Rows
section
open PySem.SeqAt
open PySem.AutoSeq1 (wpAny_loadPart')
open PySem.MeetsSeq PySem.MeetsSeq2 PySem.MeetsSeq3
end
section
variable {prog:Program}{w:World}{A:Around}{E:Value->Shared->Prop}{s:Shared}
theorem cat_tup {t b:Addr}{vs ws:List Value}{Q:Value->Shared->Prop}(ht:IsTup s.heap t vs.toArray) (hb:IsTup s.heap b ws.toArray) (hv:vs≠[])
  (h1:ws=[]->Q (.ref t) s) (h2:ws≠[]->Q (.ref s.heap.objs.size) { s with heap:=s.heap.push { cls:= .type "tuple",data:= .seq (vs++ws).toArray } })
  (hsz:vs.length+ws.length<=sizeLine):wpAny (model prog w) A (binaryOp .Add (.ref t) (.ref b)) Q E s:=by
 obtain ⟨⟨cls,dd,data,sl⟩,ho,hc,n,hd⟩:=id ht
 obtain ⟨⟨cls2,dd2,data2,sl2⟩,ho2,hc2,n2,hd2⟩:=id hb
 simp only at hc hd hc2 hd2
 subst hc hd hc2 hd2
 have e:vs.toArray++ws.toArray=(vs++ws).toArray:=by simp
 by_cases hw:ws=[]
 ·exact concat_meets ⟨_,ho,rfl⟩ ⟨_,ho2,rfl⟩ noFill_tuple_add seq_tuple_add PySem.F.slot_tuple_add PySem.F.entry_tuple_add (PySem.F.args_tuple_add_2 _ _)
   (tuple_addW1 t b vs.toArray ws.toArray n n2 dd dd2 sl sl2 (by simpa using hv) (by simp [hw])) ⟨ho,ho2,h1 hw⟩
 ·refine concat_meets ⟨_,ho,rfl⟩ ⟨_,ho2,rfl⟩ noFill_tuple_add seq_tuple_add PySem.F.slot_tuple_add PySem.F.entry_tuple_add (PySem.F.args_tuple_add_2 _ _)
   (tuple_addW2 t b vs.toArray ws.toArray n n2 dd dd2 sl sl2 (by simpa using hv) (by simpa using hw) (by rw [List.size_toArray,List.size_toArray];exact hsz)) ⟨ho,ho2,?_⟩
  rw [e]
  exact h2 hw
def sIx (n d:Nat):Option Int->Nat
 | none=>d
 | some v=>if v < 0 then (v+(n:Int)).toNat else min v.toNat n
theorem sIx_none (n d:Nat):sIx n d none=d:=rfl
theorem sIx_nat (n d k:Nat):sIx n d (some (k:Int))=min k n:=by
 show (if (k:Int) < 0 then ((k:Int)+(n:Int)).toNat else min (k:Int).toNat n)=min k n
 rw [if_neg (by omega),Int.toNat_natCast]
theorem bO9 (n d:Nat) (hd:d<=n) (o:Option Int):sIx n d o<=n:=by
 cases o with
 | none=>exact hd
 | some v =>
  show (if v < 0 then (v+(n:Int)).toNat else min v.toNat n)<=n
  by_cases hv:v < 0
  ·rw [if_pos hv];omega
  ·rw [if_neg hv];exact Nat.min_le_right _ _
theorem aA7 (v:Int) (n d:Nat):(if v < 0 then max (v+(n:Int)) 0 else min v (n:Int))=((sIx n d (some v):Nat):Int):=by
 show (if v < 0 then max (v+(n:Int)) 0 else min v (n:Int))=(((if v < 0 then (v+(n:Int)).toNat else min v.toNat n):Nat):Int)
 by_cases hv:v < 0
 ·simp only [if_pos hv];omega
 ·simp only [if_neg hv];omega
theorem zL (lo hi:Option Int) (n:Nat):Builtin.Slice.sliceAdjust lo hi 1 (n:Int)=(((sIx n 0 lo:Nat):Int),((sIx n n hi:Nat):Int)):=by
 have h1:¬ ((1:Int) < 0):=by omega
 unfold Builtin.Slice.sliceAdjust
 simp only [h1,if_false]
 refine Prod.ext ?_ ?_
 ·cases lo with
  | none=>rfl
  | some v=>exact aA7 v n 0
 ·cases hi with
  | none=>rfl
  | some v=>exact aA7 v n n
theorem yU (i j:Nat):Builtin.Slice.slicePlaces (i:Int) (j:Int) 1=j - i:=by
 unfold Builtin.Slice.slicePlaces
 have h1:(1:Int) > 0:=by omega
 simp only [h1,if_true,Int.ediv_one]
 split <;> omega
theorem qN {v:Value}{o:Option Int}{Q:Option Int->Shared->Prop}(p:IsPart v o) (h:Q o s):wpAny (model prog w) A (Builtin.Slice.slicePartIndex v) Q E s:=by
 cases p with
 | none=>exact slicePart_none h
 | int i t=>exact slicePart_int h
theorem iV {sl:Addr}{vl vu:Value}{lo hi:Option Int}{n:Nat}{Q:Int×Int×Nat->Shared->Prop}(hs:s.heap.IsSliceOf sl vl vu .none) (pl:IsPart vl lo) (pu:IsPart vu hi)
  (h:Q (((sIx n 0 lo:Nat):Int),1,sIx n n hi - sIx n 0 lo) s):wpAny (model prog w) A (Builtin.Slice.sliceApplied (.ref sl) (pure (n:Int))) Q E s:=by
 obtain ⟨os,hos,hcs,hds⟩:=id hs
 unfold Builtin.Slice.sliceApplied Builtin.Slice.sliceFields
 refine wpAny_bind (wpAny_bind (wpAny_field hos hds (x:=vl) rfl (wpAny_bind (wpAny_field hos hds (x:=vu) rfl (wpAny_bind (wpAny_field hos hds (x:= .none) rfl (wpAny_pure ?_)))))))
 refine wpAny_bind (slicePart_none ?_)
 show wpAny _ _ (if ((1:Int) == 0)=true then _ else _) _ _ s
 rw [if_neg (by decide)]
 refine wpAny_bind (qN pl (wpAny_bind (qN pu (wpAny_bind (wpAny_pure ?_)))))
 show wpAny _ _ (match Builtin.Slice.sliceAdjust lo hi 1 (n:Int) with | (lo,hi)=>pure (lo,(1:Int),Builtin.Slice.slicePlaces lo hi 1)) _ _ s
 rw [zL lo hi n]
 show wpAny _ _ (pure (((sIx n 0 lo:Nat):Int),(1:Int),Builtin.Slice.slicePlaces ((sIx n 0 lo:Nat):Int) ((sIx n n hi:Nat):Int) 1)) _ _ s
 rw [yU]
 exact wpAny_pure h
theorem aZ3 (xs:Array Value) (i k:Nat):((List.range k).filterMap fun (m:Nat)=>xs[((i:Int)+(m:Int) * 1).toNat]?).toArray=((xs.toList.drop i).take k).toArray:=by
 have e:(fun (m:Nat)=>xs[((i:Int)+(m:Int) * 1).toNat]?)=fun m=>xs[i+m]?:=by
  funext m
  have:((i:Int)+(m:Int) * 1).toNat=i+m:=by omega
  rw [this]
 rw [e]
 have:=pick_run xs i k
 rw [List.filterMap_map] at this
 have e2:((fun x=>xs[x]?) ∘ fun x=>i+x)=fun m=>xs[i+m]?:=rfl
 rw [e2] at this
 rw [this]
theorem getItem_tuple_cut {t sl:Addr}{items:Array Value}{vl vu:Value}{lo hi:Option Int}{Q:Value->Shared->Prop}(ht:IsTup s.heap t items) (hs:s.heap.IsSliceOf sl vl vu .none) (pl:IsPart vl lo) (pu:IsPart vu hi)
  (hw:¬ (sIx items.size 0 lo=0/\sIx items.size items.size hi=items.size))
  (h:Q (.ref s.heap.objs.size) { s with heap:=s.heap.push { cls:= .type "tuple",data:= .seq ((items.toList.drop (sIx items.size 0 lo)).take (sIx items.size items.size hi - sIx items.size 0 lo)).toArray } })
  (hsz:items.size<=sizeLine):wpAny (model prog w) A (getItem (.ref t) (.ref sl)) Q E s:=by
 have htake:sizeOk (.seq ((items.toList.drop (sIx items.size 0 lo)).take (sIx items.size items.size hi - sIx items.size 0 lo)).toArray):=by
  show ((items.toList.drop (sIx items.size 0 lo)).take (sIx items.size items.size hi - sIx items.size 0 lo)).toArray.size<=sizeLine
  rw [List.size_toArray,List.length_take,List.length_drop,Array.length_toList]
  omega
 have hj:sIx items.size items.size hi<=items.size:=bO9 _ _ (Nat.le_refl _) hi
 obtain ⟨os,hos,hcs,hds⟩:=id hs
 have hTs:s.TypeIs (.ref sl) "slice":=⟨os,hos,hcs⟩
 unfold getItem
 try with_reducible refine wpAny_holding ?_
 first | refine wpAny_bind (wpAny_pure ?_) | skip
 refine wpAny_bind (wpAny_sequenceKey ht.typeIs (by decide) ?_)
 refine wpAny_bind (wpAny_callSpecial?_slot (name:=Str.ofString "__getitem__") ht.typeIs PyProof.Rows.slot_tuple_getitem
  (wpAny_call_entry PyProof.Rows.slot_tuple_getitem ht.typeIs entry_tuple_getitem ?_ (args_tuple_getitem _ _)))
 show wpAny _ _ (Builtin.Tuple.tupleItemsOf (.ref t) >>= _) _ _ s
 refine wpAny_bind (tupleItemsOf_ ht ?_)
 refine wpAny_bind (wpAny_typeOf hTs ?_)
 rw [if_pos (by decide)]
 refine wpAny_bind (iV hs pl pu ?_)
 have hno:¬ ((((sIx items.size 0 lo:Nat):Int) == 0 && (1:Int) == 1 && (sIx items.size items.size hi - sIx items.size 0 lo) == items.size)=true):=by
  intro q
  rw [Bool.and_eq_true,Bool.and_eq_true] at q
  have q1:((sIx items.size 0 lo:Nat):Int)=0:=eq_of_beq q.1.1
  have q2:sIx items.size items.size hi - sIx items.size 0 lo=items.size:=eq_of_beq q.2
  exact hw ⟨by omega,by omega⟩
 show wpAny _ _ (if (((sIx items.size 0 lo:Nat):Int) == 0 && (1:Int) == 1 && (sIx items.size items.size hi - sIx items.size 0 lo) == items.size)=true then _ else _) _ _ s
 rw [if_neg hno,aZ3]
 first
  | exact wpAny_bind (m:=Builtin.Tuple.tupleExact _) (wpAny_newObj_type (wpAny_pure ⟨_,rfl,wpAny_pure h⟩) htake)
  | exact wpAny_bind (m:=Builtin.Tuple.tupleExact _) (wpAny_newObj_type (wpAny_bind (wpAny_pure (wpAny_pure ⟨_,rfl,wpAny_pure h⟩))) htake)
  | exact wpAny_bind (wpAny_bind (m:=Builtin.Tuple.tupleExact _) (wpAny_newObj_type (wpAny_pure (wpAny_pure ⟨_,rfl,wpAny_pure h⟩)) htake))
  | exact wpAny_bind (wpAny_bind (m:=Builtin.Tuple.tupleExact _) (wpAny_newObj_type (wpAny_pure ⟨_,rfl,wpAny_pure h⟩) htake))
end
end HT
namespace L2
open PySem PySem.Spec PyProof.Rows
abbrev TO:=St->Hp->(Option Int->Hp->Prop)->Prop
def PO (X:Cx) (e:Option Expr) (t:TO):Prop :=
 ∀ (pins:List (Addr×Obj)) (s:Shared) (σ: St) (H:Hp) (Q:Option Int->Hp->Prop),bG X pins σ H s->t σ H Q ->
  wpAny (model X.prog X.w) X.A (evalPart e X.env) (fun u s'=>∃ o H',bG X pins σ H' s'/\IsPart u o/\Q o H') X.xe s
def tNoPart:TO:=fun _ H Q=>Q none H
def bX9 (t:TE):TO:=fun σ H Q=>t σ H fun x H1=>∃ i,x= .int i/\Q (some i) H1
section
variable {X:Cx}{e:Expr}{te:TE}{lo hi:Option Expr}{tl th:TO}{pos p2:Pos}
theorem gQ:PO X none tNoPart:=by
 intro pins s σ H Q I h
 rw [evalPart_none]
 exact wpAny_pure ⟨none,H,I,.none,h⟩
theorem fL (h:PE X e te):PO X (some e) (bX9 te):=by
 intro pins s σ H Q I hw
 rw [evalPart_some]
 refine dQ (h pins s σ H _ I hw) fun u s1 ⟨x,H1,I1,r1,q1⟩=>?_
 obtain ⟨i,rfl,q⟩:=q1
 obtain ⟨t,rfl⟩:=r1
 exact ⟨some i,H1,I1,.int i t,q⟩
def SlR (X:Cx) (r:V->Option Int->Option Int->Hp->VK->Prop):Prop :=
 ∀ (pins:List (Addr×Obj)) (s:Shared) (σ: St) (H:Hp) (x:V) (v vl vu:Value) (lo hi:Option Int) (sl:Addr) (Q:VK),bG X pins σ H s->bX x v->s.heap.IsSliceOf sl vl vu .none->IsPart vl lo->IsPart vu hi->r x lo hi H Q ->
  ∃ T id,typeLookup (.type T) "__getitem__"=pure (some (.builtin id))/\s.TypeIs v T/\wpAny (model X.prog X.w) X.A (getItem v (.ref sl)) (EP X pins σ Q) X.xe s
def tSl (r:V->Option Int->Option Int->Hp->VK->Prop) (te:TE) (tl th:TO):TE:=fun σ H Q=>te σ H fun x H1=>tl σ H1 fun l H2=>th σ H2 fun u H3=>r x l u H3 Q
theorem eZ {r:V->Option Int->Option Int->Hp->VK->Prop}(hr:SlR X r) (he:PE X e te) (hl:PO X lo tl) (hu:PO X hi th):PE X (.Subscript e (.Slice lo hi none p2) pos) (tSl r te tl th):=by
 intro pins s σ H Q I h
 refine Subscript_ (dQ (he pins s σ H _ I h) fun v s1 ⟨x,H1,I1,r1,q1⟩=>?_)
 refine wpAny_Slice (dQ (hl pins s1 σ H1 _ I1 q1) fun vl s2 ⟨l,H2,I2,pl,q2⟩=>dQ (hu pins s2 σ H2 _ I2 q2) fun vu s3 ⟨u,H3,I3,pu,q3⟩=>?_)
 rw [evalPart_none]
 refine wpAny_pure ?_
 have I4:bG X pins σ H3 { s3 with heap:=s3.heap.push { cls:= .type "slice",data:= .fields #[vl,vu,.none] } }:=I3.kept (t':=s3.toks) fun b ob q=>Heap.get?_push_of_some _ q
 obtain ⟨T,id,hT,ht,hg⟩:=hr pins { s3 with heap:=s3.heap.push { cls:= .type "slice",data:= .fields #[vl,vu,.none] } } σ H3 x v vl vu l u s3.heap.objs.size Q I4 r1 (Heap.IsSliceOf.new ..) pl pu q3
 show wpAny (model X.prog X.w) X.A (subscriptTail e (.Slice lo hi none p2) v (.ref s3.heap.objs.size)) (EP X pins σ Q) X.xe { s3 with heap:=s3.heap.push { cls:= .type "slice",data:= .fields #[vl,vu,.none] } }
 exact tail_any (ops:=[.ref s3.heap.objs.size,v]) ht hT hg (by with_unfolding_all rfl)
def gH (xs:List V) (lo hi:Option Int):List V:=(xs.drop (HT.sIx xs.length 0 lo)).take (HT.sIx xs.length xs.length hi - HT.sIx xs.length 0 lo)
theorem nJ (xs:List V) (lo hi:Option Int):(gH xs lo hi).length<=xs.length:=by
 unfold gH
 rw [List.length_take,List.length_drop]
 omega
def cG8 (K:PySem.W.Frag):V->Option Int->Option Int->Hp->VK->Prop:=fun x lo hi H Q=>∃ a xs,x= .ref a/\aX K H a xs /\
 ¬ (HT.sIx xs.length 0 lo=0/\HT.sIx xs.length xs.length hi=xs.length)/\∀ p,H p=none->Q (.ref p) (aW H p (.tup (gH xs lo hi)))
theorem aT5:SlR X (cG8 X.K):=by
 intro pins s σ H x v vl vu lo hi sl Q I rx hs pl pu h
 obtain ⟨a,xs,rfl,hx,hw,q⟩:=h
 cases rx
 obtain ⟨its,r,ht,hz⟩:=I.tuple hx
 have hlen:its.toArray.size=xs.length:=by rw [List.size_toArray];exact r.length.symm
 refine ⟨"tuple",_,PyProof.Rows.slot_tuple_getitem.lookup,ht.typeIs,?_⟩
 refine HT.getItem_tuple_cut ht hs pl pu (by rw [hlen];exact hw) ?_ (by rw [hlen];exact hz)
 rw [hlen]
 refine ⟨.ref s.heap.objs.size,_,I.laid (t':=s.toks) (o:= .tup (gH xs lo hi)) (fun b ob q=>Heap.get?_push_of_some _ q) (Nat.le_refl _) ?_,rfl,q _ (I.hok.fresh (Nat.le_refl _))⟩
 exact ⟨Nat.le_trans (nJ xs lo hi) hz,_,(r.drop (HT.sIx xs.length 0 lo)).take (HT.sIx xs.length xs.length hi - HT.sIx xs.length 0 lo),jY.new _ _⟩
def cB5 (K:PySem.W.Frag):R2:=fun x y H Q=>∃ a b xs ys,x= .ref a/\y= .ref b/\aX K H a xs/\aX K H b ys/\xs≠[]/\xs.length+ys.length<=sizeLine /\
 (ys=[]->Q (.ref a) H)/\(ys≠[]->∀ p,H p=none->Q (.ref p) (aW H p (.tup (xs++ys))))
theorem bP.nil_iff {xs:List V}{us:List Value}(r:bP xs us):us=[]↔xs=[]:=by
 cases r with
 | nil=>simp
 | cons _ _=>simp
theorem aA0:lB X (binaryOp .Add) (cB5 X.K):=by
 intro pins s σ H x y v u Q I rx ry h
 obtain ⟨a,b,xs,ys,rfl,rfl,ha,hb,hx,hz,q1,q2⟩:=h
 cases rx
 cases ry
 obtain ⟨its,r1,p1,_⟩:=I.tuple ha
 obtain ⟨its2,r2,p2,_⟩:=I.tuple hb
 refine HT.cat_tup p1 p2 (fun z=>hx (r1.nil_iff.mp z)) (fun z=>⟨.ref a,H,I,rfl,q1 (r2.nil_iff.mp z)⟩) (fun z=>?_) (by rw [<- r1.length, <- r2.length];exact hz)
 refine ⟨.ref s.heap.objs.size,_,I.laid (t':=s.toks) (o:= .tup (xs++ys)) (fun b ob q=>Heap.get?_push_of_some _ q) (Nat.le_refl _) ?_,rfl,q2 (fun w=>z (r2.nil_iff.mpr w)) _ (I.hok.fresh (Nat.le_refl _))⟩
 exact ⟨by rw [List.length_append];exact hz,_,r1.append r2,jY.new _ _⟩
end
def ixN (n:Nat) (i:Int):Option Nat:=if 0<=i then (if i < n then some i.toNat else none) else if -(n:Int)<=i then some (i+n).toNat else none
def jA {α: Type}(xs:List α) (i:Int):Option α:=(ixN xs.length i).bind fun j=>xs[j]?
theorem bH2 {n:Nat}{i:Int}{j:Nat}(h:ixN n i=some j):seqIndex? i n=some j/\j < n/\ -(n:Int)<=i/\i < n:=by
 unfold ixN at h
 by_cases h0:0<=i
 ·rw [if_pos h0] at h
  by_cases h1:i < n
  ·rw [if_pos h1] at h
   have e:i.toNat=j:=Option.some.inj h
   exact ⟨by rw [seqIndex_of h0 h1,e],by omega,by omega,h1⟩
  ·rw [if_neg h1] at h;cases h
 ·rw [if_neg h0] at h
  by_cases h1: -(n:Int)<=i
  ·rw [if_pos h1] at h
   have e:(i+n).toNat=j:=Option.some.inj h
   exact ⟨by rw [seqIndex_neg (by omega) h1,e],by omega,h1,by omega⟩
  ·rw [if_neg h1] at h;cases h
theorem uM {α: Type}{xs:List α}{i:Int}{v:α}(h:jA xs i=some v):∃ j,seqIndex? i xs.length=some j/\xs[j]?=some v/\j < xs.length/\ -(xs.length:Int)<=i/\i < xs.length:=by
 unfold jA at h
 cases e:ixN xs.length i with
 | none=>rw [e] at h;cases h
 | some j =>
  rw [e] at h
  obtain ⟨h1,h2,h3,h4⟩:=bH2 e
  exact ⟨j,h1,h,h2,h3,h4⟩
theorem fW {α: Type}{xs:List α}{j:Nat}{v:α}(h:xs[j]?=some v):jA xs (j:Int)=some v:=by
 have hj:j < xs.length:=(List.getElem?_eq_some_iff.mp h).1
 have e:ixN xs.length (j:Int)=some j:=by
  unfold ixN
  rw [if_pos (by omega),if_pos (by omega)];simp
 unfold jA;rw [e];exact h
def aE3 (b:Expr):Prop:=∀ o i,subscripted b false o i=operate [o,i] (getItem o i)
def IxR (X:Cx) (r:R2):Prop :=
 ∀ (value slice:Expr) (pins:List (Addr×Obj)) (s:Shared) (σ: St) (H:Hp) (x y:V) (v u:Value) (Q:VK),bG X pins σ H s->bX x v->bX y u->r x y H Q ->
  subscripted slice false v u=operate [v,u] (getItem v u)->wpAny (model X.prog X.w) X.A (subscriptTail value slice v u) (EP X pins σ Q) X.xe s
def MtR (X:Cx) (id:String) (r:V->List V->Hp->VK->Prop):Prop :=
 ∀ (pins:List (Addr×Obj)) (s:Shared) (σ: St) (H:Hp) (x:V) (xs:List V) (v:Value) (us:List Value) (Q:VK),bG X pins σ H s->bX x v->bP xs us->r x xs H Q ->
  wpAny (model X.prog X.w) X.A (call (.builtin id) (v :: us)) (EP X pins σ Q) X.xe s
section
variable {X:Cx}{a b:Expr}{ta tb:TE}{pos:Pos}
theorem cC8 {r:R2}(hr:IxR X r) (ha:PE X a ta) (hb:PE X b tb) (hs:aE3 b):PE X (.Subscript a b pos) (tOp r ta tb):=by
 intro pins s σ H Q I h
 exact Subscript_ (bU5 ha hb I h fun v u s2 x y H2 I2 rx ry q=>hr a b pins s2 σ H2 x y v u Q I2 rx ry q (hs _ _))
def cA7 (K:PySem.W.Frag):R2:=fun x y H Q=>∃ p xs i v,x= .ref p/\y= .int i/\bN K H p xs/\jA xs i=some v/\Q v H
def yS (K:PySem.W.Frag):R2:=fun x y H Q=>∃ p xs i v,x= .ref p/\y= .int i/\aX K H p xs/\jA xs i=some v/\Q v H
def rIxS:R2:=fun x y H Q=>∃ z i c,x= .str z/\y= .int i/\z.length<=sizeLine/\jA z.cps.toList i=some c/\Q (.str ⟨#[c]⟩) H
theorem bZ:IxR X (cA7 X.K):=by
 intro value slice pins s σ H x y v u Q I rx ry h hs
 obtain ⟨p,xs,i,z,rfl,rfl,hq,he,q⟩:=h
 cases rx
 obtain ⟨t,rfl⟩:=ry
 obtain ⟨its,r,pl,hz⟩:=I.list hq
 obtain ⟨j,h1,h2,h3,h4,h5⟩:=uM he
 obtain ⟨w,ew,rw'⟩:=r.get h2
 have hl:=r.length
 have hn:=pR
 have fin:EP X pins σ Q w s:=⟨z,H,I,rw',q⟩
 by_cases h0:0<=i
 ·have hj:i.toNat=j:=by
   rw [seqIndex_of h0 h5] at h1
   exact Option.some.inj h1
  exact item_listR pl.isList h0 (by omega) (by rw [hj];simpa using ew) fin hs
 ·have hj:(i+(its.toArray.size:Int)).toNat=j:=by
   rw [seqIndex_neg (by omega) h4] at h1
   rw [List.size_toArray, <- hl]
   exact Option.some.inj h1
  exact subscriptTail_builtinR (x:=w) pl.isList.typeIs slot_list_getitem.lookup
   (wpAny_getItem_list_neg (Q:=fun r s'=>r=w/\EP X pins σ Q r s') pl.isList (by omega) (by rw [List.size_toArray] <;> omega) (by omega) (by rw [hj];simpa using ew) ⟨rfl,fin⟩) hs
theorem aI:IxR X (yS X.K):=by
 intro value slice pins s σ H x y v u Q I rx ry h hs
 obtain ⟨p,xs,i,z,rfl,rfl,hq,he,q⟩:=h
 cases rx
 obtain ⟨t,rfl⟩:=ry
 obtain ⟨its,r,pl,hz⟩:=I.tuple hq
 obtain ⟨j,h1,h2,h3,h4,h5⟩:=uM he
 obtain ⟨w,ew,rw'⟩:=r.get h2
 have hl:=r.length
 have hn:=pR
 have fin:EP X pins σ Q w s:=⟨z,H,I,rw',q⟩
 exact subscriptTail_builtinR (x:=w) pl.typeIs slot_tuple_getitem.lookup
  (getItem_tuple (j:=j) (Q:=fun r s'=>r=w/\EP X pins σ Q r s') pl (by omega) (by omega) (by rw [List.size_toArray, <- hl];exact h1) (by simpa using ew) ⟨rfl,fin⟩) hs
theorem tU:IxR X rIxS:=by
 intro value slice pins s σ H x y v u Q I rx ry h hs
 obtain ⟨z,i,c,rfl,rfl,hz,he,q⟩:=h
 obtain ⟨t,rfl⟩:=rx
 obtain ⟨t',rfl⟩:=ry
 obtain ⟨j,h1,h2,h3,h4,h5⟩:=uM he
 have hl:z.cps.toList.length=z.length:=by simp [Str.length]
 rw [hl] at h1 h4 h5
 have hn:=pR
 exact tail_any (typeIs_str s z t) slot_str_getitem.lookup (getItem_str (c:=c) (by
  have e1:decide (i < -(2 ^ 63:Int))=false:=decide_eq_false (by omega)
  have e2:decide (i ≥ 2 ^ 63)=false:=decide_eq_false (by omega)
  rw [e1,e2,Bool.or_false]) (by rw [h1];simpa using h2) ⟨.str ⟨#[c]⟩,H,I.tok _,⟨_,rfl⟩,q⟩) hs
theorem tW (lo hi:Option Int) (n:Nat):(sliceBounds lo hi none n).1=((HT.sIx n 0 lo:Nat):Int)/\(sliceBounds lo hi none n).2.1=((HT.sIx n n hi:Nat):Int)/\(sliceBounds lo hi none n).2.2=1:=by
 refine ⟨?_,?_,rfl⟩
 ·cases lo with
  | none=>simp [sliceBounds,HT.sIx]
  | some i =>
   simp only [sliceBounds,HT.sIx,Option.getD_none,show (1:Int) > 0 by decide,if_true]
   by_cases h:i < 0
   ·simp only [h,if_true] <;> omega
   ·simp only [h,if_false] <;> omega
 ·cases hi with
  | none=>simp [sliceBounds,HT.sIx]
  | some i =>
   simp only [sliceBounds,HT.sIx,Option.getD_none,show (1:Int) > 0 by decide,if_true]
   by_cases h:i < 0
   ·simp only [h,if_true] <;> omega
   ·simp only [h,if_false] <;> omega
theorem qZ (its:List Value) (lo hi:Option Int):slicePick its.toArray lo hi none=((its.drop (HT.sIx its.length 0 lo)).take (HT.sIx its.length its.length hi - HT.sIx its.length 0 lo)).toArray:=by
 obtain ⟨h1,h2,h3⟩:=tW lo hi its.toArray.size
 unfold slicePick
 rw [h1,h2,h3]
 simp only [sliceRange_one,pick_run,List.size_toArray] <;> rfl
def cF6 (K:PySem.W.Frag):V->Option Int->Option Int->Hp->VK->Prop:=fun x lo hi H Q=>∃ a xs,x= .ref a/\bN K H a xs/\∀ p,H p=none->Q (.ref p) (aW H p (.lst (gH xs lo hi)))
theorem mE:SlR X (cF6 X.K):=by
 intro pins s σ H x v vl vu lo hi sl Q I rx hs pl pu h
 obtain ⟨a,xs,rfl,hx,q⟩:=h
 cases rx
 obtain ⟨its,r,ht,hz⟩:=I.list hx
 have hlen:=r.length
 refine ⟨"list",_,slot_list_getitem.lookup,ht.isList.typeIs,?_⟩
 refine wpAny_getItem_list_slice ht.isList hs pl pu .none (by simp) ?_ (by rw [List.size_toArray] <;> omega)
 rw [qZ, <- hlen]
 refine ⟨.ref s.heap.objs.size,_,I.laid (t':=s.toks) (o:= .lst (gH xs lo hi)) (fun b ob q=>Heap.get?_push_of_some _ q) (Nat.le_refl _) ?_,rfl,q _ (I.hok.fresh (Nat.le_refl _))⟩
 exact ⟨Nat.le_trans (nJ xs lo hi) hz,_,0,(r.drop (HT.sIx xs.length 0 lo)).take (HT.sIx xs.length xs.length hi - HT.sIx xs.length 0 lo),Heap.get?_push_size _ rfl⟩
def kX:V->Bool
 | .non=>true
 | .bl _=>true
 | .int _=>true
 | .str _=>true
 | _=>false
def eqV:V->V->Bool
 | .non,.non=>true
 | .bl a,.bl b=>a == b
 | .bl a,.int b=>(if a then 1 else 0) == b
 | .int a,.bl b=>a == (if b then 1 else 0)
 | .int a,.int b=>a == b
 | .str a,.str b=>a == b
 | _,_=>false
theorem bL9 {A:Around}{s:Shared}{y x:V}{u v:Value}(ry:bX y u) (rx:bX x v) (fy:kX y=true) (fx:kX x=true):SeqAt.EqAt A s u v (eqV y x):=by
 cases y with
 | non =>
  cases ry
  cases x with
  | non=>cases rx;exact SeqAt.EqAt.same _
  | bl b=>cases rx;exact SeqAt.EqAt.none_bool b
  | int b=>obtain ⟨t,rfl⟩:=rx;exact SeqAt.EqAt.none_int b t
  | str b=>obtain ⟨t,rfl⟩:=rx;exact SeqAt.EqAt.none_str b t
  | _=>exact absurd (show false=true from fx) Bool.false_ne_true
 | bl a =>
  cases ry
  cases x with
  | non=>cases rx;exact SeqAt.EqAt.bool_none a
  | bl b=>cases rx;exact SeqAt.EqAt.bool_bool a b
  | int b=>obtain ⟨t,rfl⟩:=rx;exact SeqAt.EqAt.bool_int a b t
  | str b=>obtain ⟨t,rfl⟩:=rx;exact SeqAt.EqAt.bool_str a b t
  | _=>exact absurd (show false=true from fx) Bool.false_ne_true
 | int a =>
  obtain ⟨t',rfl⟩:=ry
  cases x with
  | non=>cases rx;exact SeqAt.EqAt.int_none a t'
  | bl b=>cases rx;exact SeqAt.EqAt.int_bool a t' b
  | int b=>obtain ⟨t,rfl⟩:=rx;exact SeqAt.EqAt.int_int a t' b t
  | str b=>obtain ⟨t,rfl⟩:=rx;exact SeqAt.EqAt.int_str a t' b t
  | _=>exact absurd (show false=true from fx) Bool.false_ne_true
 | str a =>
  obtain ⟨t',rfl⟩:=ry
  cases x with
  | non=>cases rx;exact SeqAt.EqAt.str_none a t'
  | bl b=>cases rx;exact SeqAt.EqAt.str_bool a t' b
  | int b=>obtain ⟨t,rfl⟩:=rx;exact SeqAt.EqAt.str_int a t' b t
  | str b=>obtain ⟨t,rfl⟩:=rx;exact SeqAt.EqAt.str_str a t' b t
  | _=>exact absurd (show false=true from fx) Bool.false_ne_true
 | _=>exact absurd (show false=true from fy) Bool.false_ne_true
def xR (x:V) (u:Value):Bool:=match u with
 | .none=>eqV .non x
 | .bool b=>eqV (.bl b) x
 | .int i _=>eqV (.int i) x
 | .str z _=>eqV (.str z) x
 | _=>false
theorem aY8 {x y:V}{u:Value}(r:bX y u) (f:kX y=true):xR x u=eqV y x:=by
 cases y with
 | non=>cases r;rfl
 | bl b=>cases r;rfl
 | int i=>obtain ⟨t,rfl⟩:=r;rfl
 | str z=>obtain ⟨t,rfl⟩:=r;rfl
 | _=>exact absurd (show false=true from f) Bool.false_ne_true
theorem mJ {x:V}:∀ {xs:List V}{us:List Value},bP xs us->xs.all kX=true->us.any (xR x)=xs.any fun y=>eqV y x
 | _,_,.nil,_=>rfl
 | y :: xs,u :: us,.cons r t,f=>by
  rw [List.all_cons,Bool.and_eq_true] at f
  rw [List.any_cons,List.any_cons,aY8 r f.1,mJ t f.2]
theorem kG {A:Around}{s:Shared}{x:V}{v:Value}(rx:bX x v) (fx:kX x=true):∀ {xs:List V}{us:List Value},bP xs us->xs.all kX=true->∀ u∈us,SeqAt.EqAt A s u v (xR x u)
 | _,_,.nil,_=>fun u hu=>by cases hu
 | y :: xs,u :: us,.cons r t,f=>fun u' hu=>by
  rw [List.all_cons,Bool.and_eq_true] at f
  rcases List.mem_cons.mp hu with rfl | hu
  ·rw [aY8 r f.1];exact bL9 r rx f.1 fx
  ·exact kG rx fx t f.2 u' hu
def lC (x:V) (xs:List V):Bool:=xs.any fun y=>eqV y x
def rIn (K:PySem.W.Frag) (neg:Bool):R2:=fun x y H Q=>∃ p xs,y= .ref p/\(bN K H p xs\/aX K H p xs)/\kX x=true/\xs.all kX=true/\Q (.bl (if neg then !lC x xs else lC x xs)) H
theorem cH:lB X (compareOp .In) (rIn X.K false):=by
 intro pins s σ H x y v u Q I rx ry h
 obtain ⟨p,xs,rfl,hq,fx,fs,q⟩:=h
 cases ry
 rcases hq with hq | hq
 ·obtain ⟨its,r,pl,hz⟩:=I.list hq
  refine SeqAt.in_listAt (xR x) pl.isList (fun w hw=>kG rx fx r fs w (by simpa using hw)) ⟨.bl _,H,I,rfl,?_⟩
  rw [show its.toArray.any (xR x)=its.any (xR x) by simp,mJ r fs]
  exact q
 ·obtain ⟨its,r,pl,hz⟩:=I.tuple hq
  refine SeqAt.in_tupleAt (xR x) pl (fun w hw=>kG rx fx r fs w (by simpa using hw)) ⟨.bl _,H,I,rfl,?_⟩
  rw [show its.toArray.any (xR x)=its.any (xR x) by simp,mJ r fs]
  exact q
theorem gP:lB X (compareOp .NotIn) (rIn X.K true):=by
 intro pins s σ H x y v u Q I rx ry h
 obtain ⟨p,xs,rfl,hq,fx,fs,q⟩:=h
 cases ry
 rcases hq with hq | hq
 ·obtain ⟨its,r,pl,hz⟩:=I.list hq
  refine SeqAt.notIn_listAt (xR x) pl.isList (fun w hw=>kG rx fx r fs w (by simpa using hw)) ⟨.bl _,H,I,rfl,?_⟩
  rw [show its.toArray.any (xR x)=its.any (xR x) by simp,mJ r fs]
  exact q
 ·obtain ⟨its,r,pl,hz⟩:=I.tuple hq
  refine SeqAt.notIn_tupleAt (xR x) pl (fun w hw=>kG rx fx r fs w (by simpa using hw)) ⟨.bl _,H,I,rfl,?_⟩
  rw [show its.toArray.any (xR x)=its.any (xR x) by simp,mJ r fs]
  exact q
theorem cG:iK X (.builtin "len") (fun xs H Q=>∃ p ys,xs=[.ref p]/\(bN X.K H p ys\/aX X.K H p ys)/\Q (.int ys.length) H):=by
 intro pins s σ H xs us Q I r h
 obtain ⟨p,ys,rfl,hq,q⟩:=h
 obtain ⟨u,rfl,rx⟩:=kT r
 cases rx
 have hn:=pR
 rcases hq with hq | hq
 ·obtain ⟨its,r',pl,hz⟩:=I.list hq
  have hlen:=r'.length
  exact Calls.call_len_list pl.isList (by simp only [List.size_toArray] <;> omega) ⟨.int ys.length,H,I.tok _,⟨s.toks+1,by rw [List.size_toArray,hlen]⟩,q⟩
 ·obtain ⟨its,r',pl,hz⟩:=I.tuple hq
  have hlen:=r'.length
  exact len_tuple pl (by simp only [List.size_toArray] <;> omega) ⟨.int ys.length,H,I.tok _,⟨s.toks+1,by rw [List.size_toArray,hlen]⟩,q⟩
theorem jJ:iK X (.type "list") (fun xs H Q=>∃ p ys,xs=[.ref p]/\(bN X.K H p ys\/aX X.K H p ys)/\∀ l,H l=none->Q (.ref l) (aW H l (.lst ys))):=by
 intro pins s σ H xs us Q I r h
 obtain ⟨p,ys,rfl,hq,q⟩:=h
 obtain ⟨u,rfl,rx⟩:=kT r
 cases rx
 have fin:∀ (its:List Value),bP ys its->ys.length<=sizeLine->∀ (h':Heap) (c':Nat),(∀ b o',s.heap.get? b=some o'->h'.get? b=some o') ->
   h'.get? s.heap.objs.size=some { cls:= .type "list",dict:=none,data:= .seq its.toArray c',slots:= #[] }->EP X pins σ Q (.ref s.heap.objs.size) { s with heap:=h' }:=fun its r' hz h' c' kp e =>
  ⟨.ref s.heap.objs.size,_,I.laid (t':=s.toks) kp (Nat.le_refl _) (show dL X.prog X.w _ h' _ (.lst ys) from ⟨hz,its,c',r',e⟩),rfl,q _ (I.hok.fresh (Nat.le_refl _))⟩
 rcases hq with hq | hq
 ·obtain ⟨its,r',pl,hz⟩:=I.list hq
  have hlen:=r'.length
  obtain ⟨o,ho,hc,n,hd⟩:=pl.isList
  exact call_list_seq p (.inl rfl) ho hc hd (fun h' c' kp e=>fin its r' hz h' c' kp e) (by simp only [List.size_toArray] <;> omega)
 ·obtain ⟨its,r',pl,hz⟩:=I.tuple hq
  have hlen:=r'.length
  obtain ⟨o,ho,hc,n,hd⟩:=pl
  exact call_list_seq p (.inr rfl) ho hc hd (fun h' c' kp e=>fin its r' hz h' c' kp e) (by simp only [List.size_toArray] <;> omega)
theorem dD:iK X (.type "tuple") (fun xs H Q=>∃ p ys,xs=[.ref p]/\((bN X.K H p ys/\∀ l,H l=none->Q (.ref l) (aW H l (.tup ys)))\/(aX X.K H p ys/\Q (.ref p) H))):=by
 intro pins s σ H xs us Q I r h
 obtain ⟨p,ys,rfl,h⟩:=h
 obtain ⟨u,rfl,rx⟩:=kT r
 cases rx
 rcases h with ⟨hq,q⟩ | ⟨hq,q⟩
 ·obtain ⟨its,r',pl,hz⟩:=I.list hq
  have hlen:=r'.length
  refine call_tuple_list pl.isList (fun h' kp=>?_) (by simp only [List.size_toArray] <;> omega)
  have I1:bG X pins σ H { s with heap:=h' }:=I.kept (t':=s.toks) kp
  have I2:bG X pins σ (aW H h'.objs.size (.tup ys)) { s with heap:=h'.push { cls:= .type "tuple",data:= .seq its.toArray } } :=
   I1.laid (t':=s.toks) (fun b o e=>Heap.get?_push_of_some _ e) (Nat.le_refl _) (show dL X.prog X.w _ _ _ (.tup ys) from ⟨hz,its,r',jY.new _ _⟩)
  exact ⟨.ref h'.objs.size,_,I2,rfl,q _ (I1.hok.fresh (Nat.le_refl _))⟩
 ·obtain ⟨its,r',pl,hz⟩:=I.tuple hq
  exact call_tuple_same pl ⟨.ref p,H,I,rfl,q⟩
def tyV (K:PySem.W.Frag) (T:String) (x:V) (H:Hp):Prop:=match x with
 | .str _=>T="str"
 | .int _=>T="int"
 | .ref p=>(T="list"/\∃ xs,bN K H p xs)\/(T="tuple"/\∃ o,K.lookup p=some o/\o.cls= .type "tuple"/\o.dict=none) \/
   (T="dict"/\((∃ kvs,H p=some (.dK kvs))\/∃ kvs,H p=some (.dT kvs)))\/(T="set"/\∃ S n,H p=some (.set S n))
 | _=>False
theorem aU0 {pins:List (Addr×Obj)}{σ: St}{H:Hp}{s:Shared}{T:String}{x:V}{v:Value}(I:bG X pins σ H s) (r:bX x v) (ty:tyV X.K T x H) :
  s.TypeIs v T/\∀ a,v= .ref a->∃ ob,s.heap.get? a=some ob/\ob.dict=none:=by
 cases x with
 | str z =>
  obtain ⟨t,rfl⟩:=r
  cases (show T="str" from ty)
  exact ⟨typeIs_str s z t,fun _ e=>nomatch e⟩
 | int i =>
  obtain ⟨t,rfl⟩:=r
  cases (show T="int" from ty)
  exact ⟨typeIs_int s i t,fun _ e=>nomatch e⟩
 | ref p =>
  cases r
  rcases ty with ⟨rfl,xs,hq⟩ | ⟨rfl,o,hk,hc,hd⟩ | ⟨rfl,hk⟩ | ⟨rfl,S,n,hk⟩
  ·obtain ⟨its,_,pl,_⟩:=I.list hq
   refine ⟨pl.isList.typeIs,fun a e=>?_⟩
   cases e
   obtain ⟨o,n,e,c,hd,_⟩:=pl
   exact ⟨o,e,hd⟩
  ·refine ⟨⟨o,I.kIn p o hk,hc⟩,fun a e=>?_⟩
   cases e
   exact ⟨o,I.kIn _ o hk,hd⟩
  ·have z:∃ o,s.heap.get? p=some o/\o.ExactDict:=by
    rcases hk with ⟨kvs,hk⟩ | ⟨kvs,hk⟩
    ·obtain ⟨_,_,_,_,o,_,_,e,ex,_⟩:=I.hok p _ hk
     exact ⟨o,e,ex⟩
    ·obtain ⟨_,_,_,_,o,_,_,e,ex,_⟩:=I.hok p _ hk
     exact ⟨o,e,ex⟩
   obtain ⟨o,e,ex⟩:=z
   refine ⟨⟨o,e,ex.1⟩,fun a e2=>?_⟩
   cases e2
   exact ⟨o,e,ex.2.1⟩
  ·obtain ⟨o,_,_,_,e,ex,_⟩:=I.hok p _ hk
   refine ⟨⟨o,e,ex.1⟩,fun a e2=>?_⟩
   cases e2
   exact ⟨o,e,ex.2.1⟩
 | _=>exact False.elim ty
def cH3 (K:PySem.W.Frag) (T:String) (r:V->List V->Hp->VK->Prop) (to:TE):TE:=fun σ H Q=>to σ H fun x H1=>tyV K T x H1/\r x [] H1 Q
def tBM (K:PySem.W.Frag) (T:String) (r:V->List V->Hp->VK->Prop) (to:TE) (t:TA):TE:=fun σ H Q=>to σ H fun x H1=>tyV K T x H1/\t σ H1 fun xs H2=>r x xs H2 Q
variable {o e:Expr}{es:List Expr}{to:TE}{t:TA}{name:Str}{apos cpos:Pos}{T id:String}{r:V->List V->Hp->VK->Prop}
theorem qP (pa:PlainAttrs T) (slot:Slot T name id) (hty:typeOf (.builtin id)=pure (.type "method_descriptor")) (hm:MtR X id r) (ho:PE X o to)
  (hbase:attributeBase o name X.env (eval o X.env)=eval o X.env:=by rfl) (hline:(apos.endLine == cpos.line)=true:=by rfl):PE X (.Call (.Attribute o name apos) [] [] cpos) (cH3 X.K T r to):=by
 intro pins s σ H Q I h
 refine wpAny_Call_method0_late hbase hline (dQ (ho pins s σ H _ I h) fun v s1 ⟨x,H1,I1,r1,ty,q1⟩=>?_)
 obtain ⟨h1,h2⟩:=aU0 I1 r1 ty
 exact ⟨T,id,pa,slot,hty,h1,h2,Calls.callWith_builtin rfl (PySem.evalArgs_none (hm pins s1 σ H1 x [] v [] Q I1 r1 .nil q1))⟩
theorem fY (pa:PlainAttrs T) (slot:Slot T name id) (hty:typeOf (.builtin id)=pure (.type "method_descriptor")) (hm:MtR X id r) (ho:PE X o to) (ha:PA X (e :: es) t)
  (hbase:attributeBase o name X.env (eval o X.env)=eval o X.env:=by rfl)
  (hfew:((backTo cpos (starEach (e :: es) X.env)).all (fun x=> !x.1) && (backToKw cpos (keywordEach [] X.env)).all (fun x=>x.1.isSome)
   && decide ((e :: es).length+([]:List Keyword).length+(if ([]:List Keyword).isEmpty then 0 else 1) < 30))=true:=by rfl)
  (hline:(apos.endLine == cpos.line)=true:=by rfl) (hs:starEach (e :: es) X.env=(false,eval e X.env) :: starEach es X.env:=by rfl) (hplain:(backTo cpos (starEach es X.env)).any (·.1)=false:=by rfl) :
  PE X (.Call (.Attribute o name apos) (e :: es) [] cpos) (tBM X.K T r to t):=by
 intro pins s σ H Q I h
 refine wpAny_Call_method_late hbase hfew hline rfl (dQ (ho pins s σ H _ I h) fun v s1 ⟨x,H1,I1,r1,ty,q1⟩=>?_)
 obtain ⟨h1,h2⟩:=aU0 I1 r1 ty
 refine ⟨T,id,pa,slot,hty,h1,h2,?_⟩
 have hA:=ha cpos pins s1 σ H1 _ I1 q1
 rw [hs] at hA ⊢
 refine Calls.callWith_builtin (by show (false || (backTo cpos (starEach es X.env)).any (·.1))=false;rw [hplain] <;> rfl) (Calls.evalArgs_plain ?_)
 exact dQ hA fun us s2 ⟨vs,H2,I2,r2,q2⟩=>hm pins s2 σ H2 x vs v us Q I2 r1 r2 q2
end
def MtM (X:Cx) (id:String) (r:V->List V->Hp->VK->Prop):Prop :=
 ∀ (pins:List (Addr×Obj)) (s:Shared) (σ: St) (H:Hp) (x:V) (xs:List V) (v:Value) (us:List Value) (Q:VK),bG X pins σ H s->bX x v->bP xs us->r x xs H Q ->
  wpAny (model X.prog X.w) X.A (call (.builtin id) (v :: us)) (EP X pins σ Q) X.xe s
theorem bP.one:∀ {x:V}{us:List Value},bP [x] us->∃ u,us=[u]/\bX x u
 | _,_,.cons r .nil=>⟨_,rfl,r⟩
theorem bP.zero:∀ {us:List Value},bP [] us->us=[]
 | _,.nil=>rfl
theorem bP.dropLast {xs:List V}{us:List Value}(h:bP xs us):bP xs.dropLast us.dropLast:=by
 induction h with
 | nil=>exact .nil
 | cons r t ih =>
  cases t with
  | nil=>exact .nil
  | cons q t'=>exact .cons r ih
theorem bP.reverse {xs:List V}{us:List Value}(h:bP xs us):bP xs.reverse us.reverse:=by
 induction h with
 | nil=>exact .nil
 | cons r t ih=>rw [List.reverse_cons,List.reverse_cons];exact bP.append ih (.cons r .nil)
theorem bP.rep {xs:List V}{us:List Value}(h:bP xs us):∀ k:Nat,bP (List.replicate k xs).flatten (List.replicate k us).flatten
 | 0=> .nil
 | k+1=>by
  rw [List.replicate_succ,List.replicate_succ,List.flatten_cons,List.flatten_cons]
  exact bP.append h (bP.rep h k)
theorem yR {α: Type}(l:List α):l.eraseIdx (l.length - 1)=l.dropLast:=by
 induction l with
 | nil=>rfl
 | cons a r ih =>
  cases r with
  | nil=>rfl
  | cons b r =>
   have e:(a :: b :: r).length - 1=((b :: r).length - 1)+1:=by
    rfl
   rw [e,List.eraseIdx_cons_succ,ih]
   all_goals rfl
theorem rF (its:List Value):∀ (k:Nat) (acc:List Value),
  List.foldl (fun x1 x2=>x1++x2) acc.toArray (List.replicate k its.toArray)=(acc++(List.replicate k its).flatten).toArray
 | 0,acc=>by simp
 | k+1,acc=>by
  have e:acc.toArray++its.toArray=(acc++its).toArray:=by simp
  have e2:(acc++its)++(List.replicate k its).flatten=acc++(List.replicate (k+1) its).flatten:=by
   rw [List.replicate_succ,List.flatten_cons,List.append_assoc]
  rw [<- e2, <- rF its k (acc++its), <- e,List.replicate_succ,List.foldl_cons]
section
variable {X:Cx}{pins:List (Addr×Obj)}{σ: St}{H:Hp}{s:Shared}{l b:Addr}{xs ys zs:List V}
theorem bG.lset {its its':List Value}{n:Nat}{f:Array Value->Array Value}{t':Nat}(I:bG X pins σ H s) (hH:H l=some (.lst xs))
  (e:s.heap.get? l=some { cls:= .type "list",data:= .seq its.toArray n }) (hf:f its.toArray=its'.toArray) (hv:bP ys its') (hz:ys.length<=sizeLine) :
  bG X pins σ (aW H l (.lst ys)) { s with heap:=s.heap.update l (Obj.mapSeq f),toks:=t' }:=by
 have q:=PySem.IsL.update e f
 rw [hf] at q
 refine I.write (x:=l) (e:=l) (by rw [hH];exact trivial) (.inl rfl) (fun b' u hb hu=>(Heap.get?_update_other s.heap (Obj.mapSeq f) (Ne.symm hb)).trans hu) ⟨_,q⟩ ?_
 exact ⟨hz,its',_,hv,q⟩
theorem bG.lnew {its:List Value}{t':Nat}(I:bG X pins σ H s) (hv:bP ys its) (hz:ys.length<=sizeLine) :
  bG X pins σ (aW H s.heap.objs.size (.lst ys)) { s with heap:=s.heap.push { cls:= .type "list",data:= .seq its.toArray },toks:=t' } :=
 I.laid (fun _ _ q=>Heap.get?_push_of_some _ q) (Nat.le_refl _) ⟨hz,its,0,hv,Heap.get?_push_size _ rfl⟩
theorem bG.fresh (I:bG X pins σ H s):H s.heap.objs.size=none:=I.hok.fresh (Nat.le_refl _)
theorem bG.lstM (I:bG X pins σ H s) (hH:H l=some (.lst xs)):xs.length<=sizeLine/\∃ (its:List Value) (n:Nat),bP xs its/\xs.length=its.length/\s.heap.get? l=some { cls:= .type "list",data:= .seq its.toArray n }:=by
 obtain ⟨z,its,n,r,e⟩:=I.hok l _ hH
 exact ⟨z,its,n,r,r.length,e⟩
theorem vI {n:Nat}(h:n<=sizeLine):Builtin.List.listTooLong n=false:=by
 unfold Builtin.List.listTooLong
 exact decide_eq_false (by omega)
end
section
variable {X:Cx}
def rAppend:V->List V->Hp->VK->Prop:=fun x vs H Q=>∃ l xs y,x= .ref l/\vs=[y]/\H l=some (.lst xs)/\xs.length < sizeLine/\Q .non (aW H l (.lst (xs++[y])))
theorem eP:MtM X "list.append" rAppend:=by
 intro pins s σ H x vs v us Q I rx rv h
 obtain ⟨l,xs,y,rfl,rfl,hH,hz,q⟩:=h
 cases rx
 obtain ⟨u,rfl,ru⟩:=rv.one
 obtain ⟨z,its,n,r,hl,e⟩:=I.lstM hH
 refine call_meets F.slot_list_append ⟨_,e,rfl⟩ F.entry_list_append (F.args_list_append_2 _ _) (PySem.list_append l its.toArray n u (by rw [List.size_toArray];omega)) ⟨e,?_⟩
 refine ⟨.non,_,I.lset (its':=its++[u]) hH e (by simp) (r.append (.cons ru .nil)) ?_,rfl,q⟩
 rw [List.length_append,List.length_singleton]
 omega
def rExtend:V->List V->Hp->VK->Prop:=fun x vs H Q=>∃ l b xs zs,x= .ref l/\vs=[.ref b]/\H l=some (.lst xs)/\H b=some (.lst zs)/\xs.length+zs.length<=sizeLine/\Q .non (aW H l (.lst (xs++zs)))
theorem fT:MtM X "list.extend" rExtend:=by
 intro pins s σ H x vs v us Q I rx rv h
 obtain ⟨l,b,xs,zs,rfl,rfl,hH,hB,hz,q⟩:=h
 cases rx
 obtain ⟨u,rfl,ru⟩:=rv.one
 cases ru
 obtain ⟨z,its,n,r,hl,e⟩:=I.lstM hH
 obtain ⟨z2,its2,n2,r2,hl2,e2⟩:=I.lstM hB
 have hsz:its.toArray.size+its2.toArray.size<=sizeLine:=by rw [List.size_toArray,List.size_toArray];omega
 have hlong:¬ (!its.toArray.isEmpty && Builtin.List.listTooLong (its.toArray.size+its2.toArray.size))=true:=by
  rw [vI hsz,Bool.and_false]
  exact Bool.false_ne_true
 refine call_meets F.slot_list_extend ⟨_,e,rfl⟩ F.entry_list_extend (F.args_list_extend_2 _ _)
  (AutoSeq1.list_extend_list_list_0 l its.toArray n b its2.toArray n2 hlong (by rw [List.size_toArray];omega) (by omega)) ⟨e,e2,?_⟩
 refine ⟨.non,_,I.lset (its':=its++its2) hH e (by simp) (r.append r2) ?_,rfl,q⟩
 rw [List.length_append]
 omega
def rPop:V->List V->Hp->VK->Prop:=fun x vs H Q=>∃ l xs y,x= .ref l/\vs=[]/\H l=some (.lst xs)/\xs[xs.length - 1]?=some y/\Q y (aW H l (.lst xs.dropLast))
theorem pI:MtM X "list.pop" rPop:=by
 intro pins s σ H x vs v us Q I rx rv h
 obtain ⟨l,xs,y,rfl,rfl,hH,hy,q⟩:=h
 cases rx
 have hus:=rv.zero
 subst hus
 obtain ⟨z,its,n,r,hl,e⟩:=I.lstM hH
 obtain ⟨u,hu,ru⟩:=r.get hy
 have hy':its.toArray[its.toArray.size - 1]?=some u:=by
  show its.toArray[its.length - 1]?=some u
  rw [<- Array.getElem?_toList, <- hl]
  exact hu
 refine call_meets F.slot_list_pop ⟨_,e,rfl⟩ F.entry_list_pop (F.args_list_pop_1 _) (MeetsSeq.list_pop_last l its.toArray n u hy' (by rw [List.size_toArray];omega)) ⟨e,?_⟩
 refine ⟨y,_,I.lset (its':=its.dropLast) hH e ?_ r.dropLast ?_,ru,q⟩
 ·show its.toArray.eraseIdxIfInBounds (its.toArray.size - 1)=its.dropLast.toArray
  rw [List.size_toArray,List.eraseIdxIfInBounds_toArray,yR]
 ·rw [List.length_dropLast]
  omega
def rCat:R2:=fun x y H Q=>∃ l b xs zs,x= .ref l/\y= .ref b/\H l=some (.lst xs)/\H b=some (.lst zs)/\xs.length+zs.length<=sizeLine/\∀ p,H p=none->Q (.ref p) (aW H p (.lst (xs++zs)))
theorem gF:lB X (binaryOp .Add) rCat:=by
 intro pins s σ H x y v u Q I rx ry h
 obtain ⟨l,b,xs,zs,rfl,rfl,hH,hB,hz,q⟩:=h
 cases rx
 cases ry
 obtain ⟨z,its,n,r,hl,e⟩:=I.lstM hH
 obtain ⟨z2,its2,n2,r2,hl2,e2⟩:=I.lstM hB
 refine PySem.P.add_list e e2 ?_ (by rw [List.size_toArray,List.size_toArray];omega)
 have ea:its.toArray++its2.toArray=(its++its2).toArray:=by simp
 rw [ea]
 exact ⟨.ref _,_,I.lnew (t':=s.toks) (r.append r2) (by rw [List.length_append];omega),rfl,q _ I.fresh⟩
def rRep:R2:=fun x y H Q=>∃ l k xs,x= .ref l/\y= .int k/\H l=some (.lst xs)/\ -(2 ^ 63)<=k/\k < 2 ^ 63/\xs.length * k.toNat<=sizeLine /\
 ∀ p,H p=none->Q (.ref p) (aW H p (.lst (List.replicate k.toNat xs).flatten))
theorem bG4 {α: Type}(xs:List α) (k:Nat):(List.replicate k xs).flatten.length=k * xs.length:=by
 induction k with
 | zero=>simp
 | succ k ih=>rw [List.replicate_succ,List.flatten_cons,List.length_append,ih,Nat.succ_mul,Nat.add_comm]
theorem aW1:lB X (binaryOp .Mult) rRep:=by
 intro pins s σ H x y v u Q I rx ry h
 obtain ⟨l,k,xs,rfl,rfl,hH,h1,h2,hz,q⟩:=h
 cases rx
 obtain ⟨t,rfl⟩:=ry
 obtain ⟨z,its,n,r,hl,e⟩:=I.lstM hH
 have hlen:its.toArray.size * k.toNat<=sizeLine:=by rw [List.size_toArray, <- hl];exact hz
 have hcap:¬ its.toArray.size * k.toNat > (2 ^ 63 - 1) / 8:=by
  have:(sizeLine:Nat)<=(2 ^ 63 - 1) / 8:=by decide
  omega
 have hfit:¬ (!Builtin.List.listFitsIndex k)=true:=by
  rw [fitsIndex_both h1 h2]
  exact Bool.false_ne_true
 have hlong:¬ Builtin.List.listTooLong (its.toArray.size * k.toNat)=true:=by
  rw [vI hlen]
  exact Bool.false_ne_true
 have hnew:List.foldl (fun x1 x2=>x1++x2) #[] (List.replicate (if its.toArray.isEmpty=true then 0 else k.toNat) its.toArray)=(List.replicate k.toNat its).flatten.toArray:=by
  have f0:∀ m:Nat,List.foldl (fun x1 x2=>x1++x2) #[] (List.replicate m its.toArray)=(List.replicate m its).flatten.toArray:=fun m=>by
   have:=rF its m []
   rw [List.nil_append] at this
   exact this
  rw [f0]
  cases its with
  | nil=>simp
  | cons a r'=>rw [if_neg (by simp)]
 refine wpAny_binaryOp_repeat_ref (T:="list") (U:="int") (by decide) ⟨_,e,rfl⟩ (fun s'=>typeIs_int s' k t) noFill_list_mul F.fills_int_mul F.slot_int_rmul repeat_list F.slot_int_index.lookup
  (call_meets F.slot_int_rmul (typeIs_int s k t) F.entry_int_rmul (F.args_int_rmul_2 _ _) (int___rmul___int_list k t l its.toArray n)
   ⟨e,rfl,⟨_,e,rfl⟩,call_meets F.slot_list_mul ⟨_,e,rfl⟩ F.entry_list_mul (F.args_list_mul_2 _ _) (AutoListH.list___mul___list_int_3 l its.toArray n k t hfit hcap hlong) ⟨e,?_⟩⟩)
 rw [hnew]
 exact ⟨.ref _,_,I.lnew (t':=s.toks) (r.rep k.toNat) (by rw [bG4,Nat.mul_comm];exact hz),rfl,q _ I.fresh⟩
end
section
variable {prog:Program}{w:World}{A:Around}{E:Value->Shared->Prop}{s:Shared}
end
section
variable {X:Cx}
end
end L2
namespace Att
open PySem PySem.W PySem.Calls PyProof.Rows
theorem nM {P:Params}{h:Heap}:∀ (ns:List Int) (vs:List Value),WellAll P h vs (ns.map WData.int)->IntsAre vs ns:=by
 intro ns
 induction ns with
 | nil =>
  intro vs w
  rw [List.map_nil] at w
  cases w
  exact .nil
 | cons n ns ih =>
  intro vs w
  rw [List.map_cons] at w
  cases w with
  | cons a b =>
   cases a
   exact .cons _ _ (ih _ b)
theorem aI2 {l:OpenLaw}{n:Nat}(hn:l.most=some n) {P:Params}{h:Heap}{args:List WData}{vals:List Value}
  (hpre:l.row.toRowW.claim.pre args=true) (hwl:WellAll P h vals args) :
  ∃ a vs ns,vals=[Value.ref a]/\args=[WData.list (ns.map WData.int)]/\h.get? a=some { cls:= .type "list",data:= .seq vs.toArray }/\IntsAre vs ns/\ns.length<=n:=by
 have hsh:WShape.hasAll [] args [.list .int]=true:=(pre_splitW hpre).1
 have hc:l.pre.holds [] { args:=args }=true:=(pre_splitW hpre).2
 obtain ⟨d,r,rfl,h1,h2⟩:=hasAllW_cons hsh
 obtain rfl:=hasAllW_nil h2
 obtain ⟨xs,rfl,h3⟩:=hasW_list h1
 obtain ⟨ns,rfl⟩:=items_int h3
 have hlen:ns.length<=n:=by
  unfold OpenLaw.pre at hc
  have h4:(WTm.not (.lt (.lit (.int (n:Int))) (.len (.arg 0)))).holds [] { args:=[.list (ns.map .int)] }=true:=by
   have h4:=(holds_andW hc).1
   rw [hn] at h4
   exact h4
  have h5:=condW_of h4 (w_not (w_lt w_lit (w_len_list (w_arg rfl))))
  rw [List.length_map] at h5
  refine Nat.le_of_not_lt fun q=>?_
  have q':(n:Int) < ((ns.length:Nat):Int):=by omega
  first
   | (rw [decide_eq_true q'] at h5;exact absurd h5 (by decide))
   | (simp at h5;omega)
 cases hwl with
 | cons w1 w2 =>
  cases w2
  cases w1 with
  | list ho hall=>exact ⟨_,_,ns,rfl,rfl,ho,nM ns _ hall,hlen⟩
theorem aJ9 (l:OpenLaw) (args:List WData):l.row.toRowW.claim.post args (.bool true) args=true :=
 postW_of (r:=l.row.toRowW) (X:=(true == true))
  (show WShape.has [] (.bool true) .bool=true by first | rfl | decide | simp [WShape.has,WShape.arms,WShape.armsAll])
  (show (WTm.eq .res (.lit (.bool true))).value [] { args:=args,res:=some (.bool true),after:=args }=some (.bool (true == true)) from w_eq_bool (w_res rfl) w_lit) rfl
theorem attach_call {l:OpenLaw}{n:Nat}{q:Program}{loose:List Str}{XP:(Str->Option Value)->Heap->Prop}{YP:World->Heap->Prop}{d:DefRec}
  (hn:l.most=some n) (hdf:d.params.defaults=[])
  (call:∀ (w:World) (s₀ s₁:Shared) (mg mb:Str->Option Value) (fa:Addr) (o:Obj) (pm cd doc:Value) (a:Addr) (vs:List Value) (ns:List Int),
   Ground q loose [] XP w s₀ mg mb s₁.heap->YP w s₁.heap ->
   s₁.heap.get? fa=some o->o.data= .func (docDef d.name d.params d.body d.scope pm cd doc)->s₁.heap.CodeRec cd d.name->mg d.name=some (.ref fa) ->
   s₁.heap.get? a=some { cls:= .type "list",data:= .seq vs.toArray }->IntsAre vs ns->ns.length<=n->s₁.gens= #[] ->
   codeAny (model l.prog w) callerA (.call (.ref fa) ⟨[.ref a],[]⟩) (fun r s'=>r= .ok (.ret (.bool true))/\OldK s₁.heap s'.heap/\s'.os=s₁.os/\AllBare s'.gens) s₁) :
  WalkO q loose XP YP l.row.toRowW d [] (fun f vs=>PySem.call f vs):=by
 intro w s₀ s₁ mg mb G Y fa o pm cd doc dV kV ho hd hcd hD hmg hg args vals as hpre hlay hrd hwl hlo
 obtain rfl:dV= .none:=Dflts.none hD hdf
 obtain rfl:kV= .none:=Dflts.noKw hD
 obtain ⟨a,vs,ns,rfl,rfl,hobj,hints,hlen⟩:=aI2 hn hpre hwl
 refine enter_call (codeAny_mono (call w s₀ s₁ mg mb fa o pm cd doc a vs ns G Y ho (fd_plain hd) hcd hmg hobj hints hlen hg) fun r s' hq=>?_)
 obtain ⟨rfl,h2,h3,h4⟩:=hq
 exact ⟨.inl ⟨.bool true,.bool true,[],rfl,fun _=>rfl,.bool true,aJ9 l _,fun _=>⟨List.Pairwise.nil,fun _ hm=>(nomatch hm)⟩⟩,h2,h3,h4⟩
section
variable {prog:Program}{w:World}{A:Around}{E:Value->Shared->Prop}{s:Shared}{K:Frag}
def cH5 (h:Heap) (L d:Addr):List (Addr×Obj):=(List.range h.objs.size).filterMap fun a=>if a=L\/a=d then none else (h.get? a).map fun o=>(a,o)
end
end Att
namespace L2
open PySem PySem.Spec PyProof.Rows
theorem rN:∀ {vs:List Value}{ns:List Int},IntsAre vs ns->bP (ns.map V.int) vs
 | _,_,.nil=> .nil
 | _,_,.cons n t h=> .cons ⟨t,rfl⟩ (rN h)
def bQ8 (H:Hp):Prop:=∀ b,H b=none\/∃ o xs,H b=some (.frz o (.lst xs))
theorem aZ9 {P:Program}{w:World}{K:PySem.W.Frag}{mg mb:Str->Option Value}{CX:CXT}{k:Nat}{fa a:Addr}{fd:FuncData}{x:Str}{sp:Sp}{s₁:Shared}{vs:List Value}{ns:List Int}
  (KX:K.In s₁.heap) (hns:s₁.heap.Ns mainGlobals mg) (hb:s₁.heap.Ns builtinsNs mb) (hbb:∀ x:Str,x≠"__name__"->mb x=bootBuiltins x) (hlim:s₁.heap.NoLimit) (hg:s₁.gens= #[])
  (ha:s₁.heap.get? a=some { cls:= .type "list",data:= .seq vs.toArray }) (hi:IntsAre vs ns) (hl:ns.length<=sizeLine) (hr:eF k callerA)
  (F:∀ base:Heap,K.In base->base.Ns mainGlobals mg->bQ P w K mg base CX k fa fd [x] sp) (hbind:∀ (s:Shared) (u:Value),BindsTo s fd ⟨[u],[]⟩ [(x,u)])
  (hsp:∀ H:Hp,bQ8 H->bN K H a (ns.map V.int)->sp [.ref a] H (fun v _=>v= .bl true) fun _ _ _=>False)
  (hCX:∀ H e s',CX [] H s₁ (fun _ _ _=>False) e s'->False) :
  codeAny (model P w) callerA (.call (.ref fa) ⟨[.ref a],[]⟩) (fun r s'=>r= .ok (.ret (.bool true))/\OldK s₁.heap s'.heap/\s'.os=s₁.os/\AllBare s'.gens) s₁:=by
 have rv:=rN hi
 have lenV:=hi.length
 have core:∀ H:Hp,bQ8 H->bN K H a (ns.map V.int)->lK P w H s₁.heap->(∀ b,H b≠none->b=a)->(H a≠none->K.lookup a=none) ->
   codeAny (model P w) callerA (.call (.ref fa) ⟨[.ref a],[]⟩) (fun r s'=>r= .ok (.ret (.bool true))/\OldK s₁.heap s'.heap/\s'.os=s₁.os/\AllBare s'.gens) s₁:=by
  intro H hO hS hok hA hK
  have base_of:∀ {b:Addr}{o:Obj},s₁.heap.get? b=some o->H b=none->(uX s₁.heap H).get? b=some o:=fun e n=>aU4 e n
  have noA:∀ {b:Addr}{o:Obj}{es:Array DictEntry}{ep:Nat},s₁.heap.get? b=some o->o.data= .dict es ep->H b=none:=fun {b o es ep} e d=>by
   cases q:H b with
   | none=>rfl
   | some u =>
    have e':b=a:=hA b (by rw [q];simp)
    subst e'
    rw [ha] at e;cases e
    have d':Data.seq vs.toArray _=Data.dict es ep:=d
    cases d'
  have nsK:∀ {b:Addr}{m:Str->Option Value},s₁.heap.Ns b m->(uX s₁.heap H).Ns b m:=fun {b m} ⟨o,es,ep,e,d,r⟩=>⟨o,es,ep,base_of e (noA e d),d,r⟩
  have hKb:K.In (uX s₁.heap H):=fun b o e=>base_of (KX b o e) (by
   cases q:H b with
   | none=>rfl
   | some u =>
    have e':b=a:=hA b (by rw [q];simp)
    subst e'
    rw [hK (by rw [q];simp)] at e;cases e)
  have hM:Mod K mg (uX s₁.heap H):=⟨hKb,nsK hns,⟨mb,nsK hb,hbb⟩,let ⟨mc,h1,h2⟩:=hlim;⟨mc,nsK h1,h2⟩⟩
  have e0:bE2 P w K mg (uX s₁.heap H) callerA [] s₁ H:=⟨rfl,hM,fun b o e=>bC9 e,Nat.le_of_eq (aJ4 _ _),trivial,fun b hb=>absurd (show b∈([]:List Addr) from hb) (by simp),hok,.of_eq hg⟩
  refine codeAny_mono ((F _ hKb (nsK hns)).run callerA [] s₁ H ⟨[.ref a],[]⟩ [.ref a] [.ref a] _ _ hr e0 (hbind s₁ (.ref a)) (.cons rfl .nil) (hsp H hO hS)) fun r s' h=>?_
  cases r with
  | error e=>exact (hCX H e s' h).elim
  | ok fl =>
   cases fl with
   | next=>exact False.elim h
   | brk=>exact False.elim h
   | cont=>exact False.elim h
   | ret u =>
    obtain ⟨v,H',os,bare,un,hok',r',q⟩:=h
    have q':v= .bl true:=q
    subst q'
    obtain rfl:u=Value.bool true:=r'
    refine ⟨rfl,OldK.of_keep fun b o e=>?_,os,bare⟩
    cases q:H b with
    | none=>exact un.keep b o e q (by intro z;exact absurd (show b∈([]:List Addr) from z) (by simp)) (by simp)
    | some u =>
     rcases hO b with z | ⟨ob,xs,z⟩
     ·rw [q] at z;cases z
     ·have z2:=un.frzs b ob _ z
      obtain ⟨e1,_⟩:=hok b _ z
      obtain ⟨e2,_⟩:=hok' b _ z2
      rw [e] at e1;cases e1
      exact e2
 cases hk:K.lookup a with
 | some o =>
  have e:=KX a o hk
  rw [ha] at e
  cases e
  refine core (fun _=>none) (fun _=> .inl rfl) (.inr ⟨_,vs.toArray,_,hk,rfl,rfl,rfl,by rw [List.size_toArray,lenV];exact hl,by simpa using rv⟩) (fun b u z=>by have z':(none:Option HO)=some u:=z;cases z') (fun b z=>absurd rfl z) fun z=>absurd rfl z
 | none =>
  refine core (fun b=>if b=a then some (.frz { cls:= .type "list",data:= .seq vs.toArray } (.lst (ns.map V.int))) else none) (fun b=>?_) (.inl (.inr ⟨{ cls:= .type "list",data:= .seq vs.toArray },if_pos rfl⟩)) (fun b u z=>?_) (fun b z=>?_) fun _=>hk
  ·by_cases hb:b=a
   ·exact .inr ⟨_,_,if_pos hb⟩
   ·exact .inl (if_neg hb)
  ·by_cases hb:b=a
   ·have z':=(if_pos hb).symm.trans z
    cases z'
    subst hb
    exact ⟨ha,by rw [List.length_map];exact hl,vs,_,rv,ha⟩
   ·have z':=(if_neg hb).symm.trans z
    cases z'
  ·by_cases hb:b=a
   ·exact hb
   ·exact absurd (if_neg hb) z
theorem walk_of {l:PySem.W.OpenLaw}{n k:Nat}{q:Program}{loose:List Str}{XP:(Str->Option Value)->Heap->Prop}{YP:World->Heap->Prop}{d:DefRec}{K:Params->PySem.W.Frag}{CX:World->CXT}{sp:World->Sp}{x:Str}
  (hn:l.most=some n) (hn2:n<=sizeLine) (hdf:d.params.defaults=[]) (hr:eF k callerA)
  (hY:∀ (w:World) (h:Heap),YP w h->(K w.params).In h)
  (F:∀ (w:World) (mg:Str->Option Value) (fa:Addr) (h:Heap),(K w.params).In h->h.Ns mainGlobals mg->mg d.name=some (.ref fa) ->
   ∃ fd:FuncData,(∀ (s:Shared) (u:Value),BindsTo s fd ⟨[u],[]⟩ [(x,u)]) /\
    ∀ base:Heap,(K w.params).In base->base.Ns mainGlobals mg->bQ l.prog w (K w.params) mg base (CX w) k fa fd [x] (sp w))
  (hsp:∀ (w:World) (H:Hp) (a:Addr) (ns:List Int),ns.length<=n->bQ8 H->bN (K w.params) H a (ns.map V.int)->sp w [.ref a] H (fun v _=>v= .bl true) fun _ _ _=>False)
  (hCX:∀ (w:World) (H:Hp) (s:Shared) (e:Value) (s':Shared),CX w [] H s (fun _ _ _=>False) e s'->False) :
  PySem.W.WalkO q loose XP YP l.row.toRowW d [] (fun f vs=>PySem.call f vs):=by
 refine Att.attach_call hn hdf fun w s₀ s₁ mg mb fa o pm cd doc a vs ns G Y ho hd hcd hmg hobj hints hlen hg=>?_
 have KX:=hY w _ Y
 obtain ⟨fd,hb,hF⟩:=F w mg fa _ KX G.T.g hmg
 exact aZ9 KX G.T.g G.T.b G.T.builtins G.T.nolimit hg hobj hints (Nat.le_trans hlen hn2) hr hF hb (fun H hO hS=>hsp w H a ns hlen hO hS) fun H e s'=>hCX w H s₁ e s'
def aP (s:Stmt):Arguments:=match s with
 | .FunctionDef _ a _ _ _ _ _ _ _ _=>a
 | _=>{ posonlyargs:=[],args:=[],vararg:=none,kwonlyargs:=[],kw_defaults:=[],kwarg:=none,defaults:=[] }
def aN (s:Stmt):List Stmt:=match s with
 | .FunctionDef _ _ b _ _ _ _ _ _ _=>b
 | _=>[]
def aG (s:Stmt):Scope:=match s with
 | .FunctionDef _ _ _ _ _ _ sc _ _ _=>sc
 | _=>{ kind:= .function,names:=[],isGenerator:=false,isCoroutine:=false }
abbrev dS:CXT:=fun _ _ _ _ _ _=>False
abbrev E0:XK:=fun _ _ _=>False
theorem cA9 {X:Cx}:xT dS X E0:=fun _ _ _ _ _ _ _ h=>h.elim
structure dO (K:PySem.W.Frag) (x qual:Str) (st:Stmt) (f:Addr) (fd:FuncData):Prop where
 ex:∃ (oc:Value) (od:Option Addr) (kV doc pm:Value) (an:Option Addr) (cdv ct:Value) (osl:Array (Option Value)),
  fd=PySem.W.fnOf x qual (aP st) (aN st) (aG st) .none kV doc pm an cdv ct/\K.lookup f=some ⟨oc,od,.func fd,osl⟩/\PySem.W.codeIn K cdv qual=true
 kp:PySem.W.keepIn K (.ref f)=true
theorem bI {X:Cx}{value slice:Expr}{r:R2}{to ti:TE}{pos:Pos}(hr:IxR X r) (ho:PE X value to) (hi:PE X slice ti) (hs:aE3 slice:=by exact fun _ _=>rfl):PE X (.Subscript value slice pos) (tOp r to ti):=cC8 hr ho hi hs
def Cl (P:Program) (w:World) (K:PySem.W.Frag) (mg:Str->Option Value) (base:Heap) (n:Nat) (ps:List Str) (sp:Sp) (x:Str):Prop:=∃ f d,bQ P w K mg base dS n f d ps sp/\jP K d ps []/\PySem.W.keepIn K (.ref f)=true/\mg x=some (.ref f)
theorem bR {X:Cx}{k:Nat}{ps:List Str}{sp:Sp}{x:Str}{e:Expr}{es:List Expr}{t:TA}{pos p:Pos}(C:Cl X.prog X.w X.K X.mg X.base k ps sp x) {n:Nat}(hr:eF n X.A) (ha:PA X (e :: es) t) (hn:k<=n:=by first | decide | omega) (hg:Gl X x:=by rfl) (hdb:(x == ("__debug__": Str))=false:=by decide) (he:starEach (e :: es) X.env=(false,eval e X.env) :: starEach es X.env:=by rfl)
  (hpl:(backTo pos (starEach es X.env)).any (·.1)=false:=by rfl):PE X (.Call (.Name x p) (e :: es) [] pos) (aA6 sp [] E0 t):=let ⟨_,_,g,b,k,m⟩:=C;bD3 g (hr.mono hn) hg m k b .nil cA9 ha hdb he hpl
section
variable {P:Program}{w:World}{K:PySem.W.Frag}{mg:Str->Option Value}{base:Heap}
theorem dO.ok {x qual:Str}{st:Stmt}{f:Addr}{fd:FuncData}{N ps:List Str}{k:Nat}{sp:Sp}(F:dO K x qual st f fd) (S:aS N ps (aG st)) (len:∀ vs H Q E,sp vs H Q E->vs.length=ps.length)
  (hbody:∀ (cdv:Value) (A:Around) (outer:List Env) (s:Shared) (H:Hp) (vs:List V) (Q:VK) (E:XK),eF k (A.deeper (envOfC qual (aG st) s.heap.objs.size f cdv))->sp vs H Q E ->
   ∃ t,PSs (aN4 dS P w K mg base N qual (aG st) f cdv A outer s H E).nox (aN st) t/\t { nx:=fun _ H'=>Q .non H',rt:=Q } (nB N vs) H):bQ P w K mg base dS (k+1) f fd ps sp:=by
 obtain ⟨oc,od,kV,doc,pm,an,cdv,ct,osl,rfl,lk,hcd⟩:=F.ex
 refine cE0 lk hcd S len fun A outer s H vs Q E hr hsp=>?_
 obtain ⟨t,h,q⟩:=hbody cdv A outer s H vs Q E hr hsp
 exact ⟨t,h.nox,q⟩
theorem dO.binds {x qual:Str}{st:Stmt}{f:Addr}{fd:FuncData}{ps:List Str}(F:dO K x qual st f fd)
  (h:∀ (kV doc pm:Value) (an:Option Addr) (cdv ct:Value) (us:List Value),us.length=ps.length->bindArgs (PySem.W.fnOf x qual (aP st) (aN st) (aG st) .none kV doc pm an cdv ct) ⟨us,[]⟩=pure (ps.zip us)):jP K fd ps []:=by
 obtain ⟨oc,od,kV,doc,pm,an,cdv,ct,osl,rfl,lk,hcd⟩:=F.ex
 exact .all (h kV doc pm an cdv ct)
theorem aY {x qual:Str}{st:Stmt}{f:Addr}{oc:Value}{od an:Option Addr}{osl:Array (Option Value)}{kV doc pm cdv ct:Value}(l:K.lookup f=some ⟨oc,od,.func (PySem.W.fnOf x qual (aP st) (aN st) (aG st) .none kV doc pm an cdv ct),osl⟩)
  (c:PySem.W.codeIn K cdv qual=true) (k:PySem.W.keepIn K (.ref f)=true):dO K x qual st f (PySem.W.fnOf x qual (aP st) (aN st) (aG st) .none kV doc pm an cdv ct):=⟨⟨oc,od,kV,doc,pm,an,cdv,ct,osl,rfl,l,c⟩,k⟩
end
theorem kK {A:Around}{k:Nat}(hr:eF k A):A.units+1 < cLine:=Nat.lt_of_le_of_lt (Nat.add_le_add_left (by decide:1<=64) _) hr.units
theorem bD {n:Nat}(h:n<=1000):n < sizeLine:=Nat.lt_of_le_of_lt h (by decide)
section
variable {X:Cx}
theorem pv (i:Nat) {x:Str}{pos:Pos}(hN:X.N[i]?=some x:=by rfl) (hv:Vis X.env.scope x:=by first | exact Or.inl rfl | exact Or.inr (Or.inl rfl) | exact Or.inr (Or.inr rfl)) (hd:(x == ("__debug__": Str))=false:=by decide)
  (hcd:(x == ("__classdict__": Str))=false:=by decide):PE X (.Name x pos) (lX i):=bR9 hN hv hd hcd
end
theorem cC5 {A B:Prop}(h:B):if false=true then A else B:=by
 rw [if_neg Bool.false_ne_true]
 exact h
theorem lQ {c A B:Prop} [Decidable c] (h1:c->A) (h2:¬ c->B):if c then A else B:=by
 by_cases h:c
 ·rw [if_pos h]
  exact h1 h
 ·rw [if_neg h]
  exact h2 h
theorem cE2 {c A B:Prop} [Decidable c] (hc:c) (h:B):if (!decide c)=true then A else B:=by
 rw [decide_eq_true hc]
 exact cC5 h
def aZ (H H':Hp):Prop:=∀ b o,H b=some o->H' b=some o
theorem aZ.refl (H:Hp):aZ H H:=fun _ _ h=>h
theorem aZ.trans {H H1 H2:Hp}(a:aZ H H1) (b:aZ H1 H2):aZ H H2:=fun c o h=>b c o (a c o h)
theorem aZ.free {H H':Hp}(e:aZ H H') {l:Addr}(h:H' l=Option.none):H l=Option.none:=by
 cases q:H l with
 | none=>rfl
 | some o =>
  rw [e l o q] at h
  cases h
theorem aZ.seq {K:PySem.W.Frag}{H H':Hp}{a:Addr}{xs:List V}(e:aZ H H') (h:bN K H a xs):bN K H' a xs:=by
 rcases h with (h | ⟨o,h⟩) | h
 ·exact .inl (.inl (e _ _ h))
 ·exact .inl (.inr ⟨o,e _ _ h⟩)
 ·exact .inr h
section
variable {κ: Type} [DecidableEq κ]
end
end L2
set_option maxHeartbeats 4000000
namespace L2
open PySem PySem.Spec PyProof.Rows
def tO (env:Env) (names:List (Str×NameKind)):List (Str×Addr) :=
 names.foldl (fun cs y=>if y.2 == NameKind.free then (y.1,(env.cells.lookup y.1).getD 0) :: cs else cs) []
theorem aQ0 {env:Env}:∀ (names:List (Str×NameKind)) (cs:List (Str×Addr)),(∀ y∈names,y.2= .free->∃ c,env.cells.lookup y.1=some c) ->
  (forIn names cs fun (y:Str×NameKind) (r:List (Str×Addr))=>(if y.2 == NameKind.free then (do let a <- cellOf env y.1;pure (ForInStep.yield ((y.1,a) :: r))) else pure (ForInStep.yield r):Sem (ForInStep (List (Str×Addr))))) =
   pure (names.foldl (fun cs y=>if y.2 == NameKind.free then (y.1,(env.cells.lookup y.1).getD 0) :: cs else cs) cs)
 | [],cs,_=>rfl
 | (n,k) :: r,cs,h=>by
  have ih:=fun cs'=>aQ0 (env:=env) r cs' fun y hy=>h y (List.mem_cons_of_mem _ hy)
  rw [List.forIn_cons,List.foldl_cons]
  by_cases hk:k= .free
  ·subst hk
   obtain ⟨c,hc⟩:=h (n,.free) List.mem_cons_self rfl
   have e:cellOf env n=pure c:=by unfold cellOf;rw [hc]
   simp only [beq_self_eq_true,if_true,e,pure_bind,hc,Option.getD_some]
   exact ih _
  ·have hb:(k == NameKind.free)=false:=by simpa using hk
   simp only [hb,Bool.false_eq_true,if_false,pure_bind]
   exact ih _
theorem qE {scope:Scope}{env:Env}(h:∀ y∈scope.names,y.2= .free->∃ c,env.cells.lookup y.1=some c):closureFor scope env=pure (tO env scope.names):=by
 unfold closureFor
 have e:=aQ0 (env:=env) scope.names [] h
 simp only [] at e ⊢
 refine Eq.trans ?_ (congrArg (fun m:Sem (List (Str×Addr))=>m >>= fun cs=>pure cs) e)
 rfl
theorem aZ8 {env:Env}{x:Str}{c:Addr}:∀ (names:List (Str×NameKind)) (cs:List (Str×Addr)),(∀ y∈names,y.2= .free->∃ c,env.cells.lookup y.1=some c) ->
  (names.foldl (fun cs y=>if y.2 == NameKind.free then (y.1,(env.cells.lookup y.1).getD 0) :: cs else cs) cs).lookup x=some c->cs.lookup x=some c\/env.cells.lookup x=some c
 | [],_,_,e=> .inl e
 | (n,k) :: r,cs,h,e=>by
  rw [List.foldl_cons] at e
  have ih:=aZ8 r _ (fun y hy=>h y (List.mem_cons_of_mem _ hy)) e
  rcases ih with q | q
  ·by_cases hk:k= .free
   ·subst hk
    obtain ⟨c',hc⟩:=h (n,.free) List.mem_cons_self rfl
    simp only [beq_self_eq_true,if_true,hc,Option.getD_some,List.lookup_cons] at q
    cases hx:x == n with
    | true =>
     rw [hx] at q
     have:x=n:=by simpa using hx
     subst this
     simp only [Option.some.injEq] at q
     subst q
     exact .inr hc
    | false =>
     rw [hx] at q
     exact .inl q
   ·have hb:(k == NameKind.free)=false:=by simpa using hk
    simp only [hb,Bool.false_eq_true,if_false] at q
    exact .inl q
  ·exact .inr q
theorem yV {env:Env}{x:Str}:∀ (names:List (Str×NameKind)) (cs:List (Str×Addr)),((x,NameKind.free)∈names\/∃ c,cs.lookup x=some c) ->
  ∃ c,(names.foldl (fun cs y=>if y.2 == NameKind.free then (y.1,(env.cells.lookup y.1).getD 0) :: cs else cs) cs).lookup x=some c
 | [],_,e=>by rcases e with e | e;exact absurd e (by simp);exact e
 | (n,k) :: r,cs,e=>by
  rw [List.foldl_cons]
  refine yV r _ ?_
  rcases e with e | ⟨c,e⟩
  ·rcases List.mem_cons.mp e with z | z
   ·cases z
    right
    simp only [beq_self_eq_true,if_true,List.lookup_cons]
    exact ⟨_,rfl⟩
   ·exact .inl z
  ·right
   by_cases hk:k= .free
   ·subst hk
    simp only [beq_self_eq_true,if_true,List.lookup_cons]
    cases hx:x == n with
    | true=>exact ⟨_,rfl⟩
    | false=>exact ⟨c,e⟩
   ·have hb:(k == NameKind.free)=false:=by simpa using hk
    simp only [hb,Bool.false_eq_true,if_false]
    exact ⟨c,e⟩
theorem mD {env:Env}{x:Str}:∀ {names:List (Str×NameKind)},(∀ y∈names,y.2≠ .cell) ->
  ((names.map fun (n,k)=>if (k == NameKind.free && env.scope.kind == .function && env.kindOf n == some .cell) then (n,NameKind.cell) else (n,k)).lookup x=some .cell \/
   (names.map fun (n,k)=>if (k == NameKind.free && env.scope.kind == .function && env.kindOf n == some .cell) then (n,NameKind.cell) else (n,k)).lookup x=some .free)->(x,NameKind.free)∈names
 | [],_,h=>by simp at h
 | (n,k) :: r,hc,h=>by
  have ih:= @mD env x r fun y hy=>hc y (List.mem_cons_of_mem _ hy)
  have hk:=hc (n,k) List.mem_cons_self
  simp only [List.map_cons] at h
  by_cases cc:(k == NameKind.free && env.scope.kind == .function && env.kindOf n == some .cell)=true
  ·rw [if_pos cc] at h
   have kf:k= .free:=by
    simp only [Bool.and_eq_true,beq_iff_eq] at cc
    exact cc.1.1
   subst kf
   simp only [List.lookup_cons] at h
   cases hx:x == n with
   | true =>
    have:x=n:=by simpa using hx
    subst this
    exact List.mem_cons_self
   | false=>rw [hx] at h;exact List.mem_cons_of_mem _ (ih h)
  ·rw [if_neg cc] at h
   simp only [List.lookup_cons] at h
   cases hx:x == n with
   | true =>
    rw [hx] at h
    have:x=n:=by simpa using hx
    subst this
    rcases h with h | h
    ·simp only [Option.some.injEq] at h
     exact absurd h hk
    ·simp only [Option.some.injEq] at h
     subst h
     exact List.mem_cons_self
   | false=>rw [hx] at h;exact List.mem_cons_of_mem _ (ih h)
abbrev aS7 (ifs:List Expr) (env:Env):Sem Bool:=forIn ifs true fun c r =>
 if r=true then do
  let ok <- isTrue c env (eval c env)
  pure (ForInStep.yield ok)
 else pure (ForInStep.yield r)
def aX3 (X:Cx) (ifs:List Expr) (t:TT):Prop :=
 ∀ (pins:List (Addr×Obj)) (s:Shared) (σ: St) (H:Hp) (Q:Bool->Hp->Prop),bG X pins σ H s->t σ H Q ->
  wpAny (model X.prog X.w) X.A (aS7 ifs X.env) (TP X pins σ Q) X.xe s
def tYes:TT:=fun _ H Q=>Q true H
theorem fG {X:Cx}:aX3 X [] tYes:=fun _ _ _ H _ I h=>wpAny_tests_nil ⟨H,I,h⟩
theorem pB {X:Cx}{c:Expr}{t:TT}(h:PT X c t):aX3 X [c] t:=fun pins s σ H Q I q=>wpAny_tests_one (h pins s σ H Q I q)
abbrev yO:Value->Shared->Prop:=fun _ _=>False
theorem aK9 {prog:Program}{w:World}{A:Around}{R:Result->Shared->Prop}{s0:Shared}{elt target iter:Expr}{ifs:List Expr}{scope:Scope}{pos:Pos}{it acc:Value}{env:Env}(W:Nat->Shared->Prop)
  (one:∀ k t,W k t->wpAny (model prog w) A (pyNext it) (fun r t1=>match r with
   | none=>R (.ok .next) t1
   | some v=>wpAny (model prog w) A (letOwnedTupleGo target it v) (fun _ t2=>wpAny (model prog w) A (assign target env v) (fun _ t3=>wpAny (model prog w) A (aS7 ifs env) (fun ok t4 =>
     if ok=true then wpAny (model prog w) A (eval elt env) (fun x t5=>wpAny (model prog w) A (call (.builtin "list.append") [acc,x]) (fun _ t6=>∃ j,j < k/\W j t6) yO t5) yO t4
     else ∃ j,j < k/\W j t4) yO t3) yO t2) yO t1) yO t)
  (k0:Nat) (h0:W k0 s0):codeAny (model prog w) A (.compLoop (.ListComp elt [⟨target,iter,ifs,0⟩] scope pos) 0 it acc env) R s0:=by
 refine codeAny_loop rfl W (fun k t hW=>?_) k0 h0
 refine wpAny_noted (m:=compTurn (.ListComp elt [⟨target,iter,ifs,0⟩] scope pos) 0 it acc env) ?_
 have no:∀ {P:Prop}{e:Value}{t:Shared},yO e t->P:=fun z=>z.elim
 rw [compTurn_list]
 refine wpAny_bind (wpAny_standAt (wpAny_bind (wpAny_mono (one k t hW) (fun r t1 q1=>?_) fun _ _=>no)))
 match r with
 | none=>exact wpAny_pure q1
 | some v =>
  refine wpAny_bind (wpAny_mono q1 (fun _ t2 q2=>wpAny_bind (wpAny_mono q2 (fun _ t3 q3=>wpAny_bind (wpAny_mono q3 (fun ok t4 q4=>?_) fun _ _=>no)) fun _ _=>no)) fun _ _=>no)
  match ok with
  | false=>exact wpAny_pure ⟨rfl,q4⟩
  | true =>
   rw [if_pos rfl] at q4
   refine wpAny_bind (wpAny_bind (wpAny_mono q4 (fun x t5 q5=>wpAny_bind (wpAny_mono q5 (fun _ t6 q6=>?_) fun _ _=>no)) fun _ _=>no))
   exact wpAny_pure (wpAny_pure ⟨rfl,q6⟩)
def vN (ix:List (Option Nat)) (σ: St):St:=ix.map fun o=>o.bind fun j=>σ[j]?.join
theorem aY9 {ix:List (Option Nat)}{σ: St}{i:Nat}{v:V}(h:(vN ix σ)[i]?=some (some v)):∃ j,ix[i]?=some (some j)/\σ[j]?=some (some v):=by
 unfold vN at h
 rw [List.getElem?_map] at h
 cases e:ix[i]? with
 | none=>rw [e] at h;cases h
 | some o =>
  rw [e] at h
  cases o with
  | none=>cases h
  | some j =>
   have h:some (σ[j]?.join)=some (some v):=h
   refine ⟨j,rfl,?_⟩
   cases q:σ[j]? with
   | none=>rw [q] at h;cases h
   | some z=>rw [q] at h;cases h;rfl
def uD (N:List Str) (sc scope:Scope) (N':List Str) (ix:List (Option Nat)):Bool :=
 ix.length == N'.length && (ix.zip N').all (fun p=>match p.1 with | none=>true | some j=>N[j]? == some p.2 && scope.names.lookup p.2 == some NameKind.free) &&
 scope.names.all (fun y=>y.2 != NameKind.cell && (y.2 != NameKind.free || sc.names.lookup y.1 == some NameKind.cell || sc.names.lookup y.1 == some NameKind.free) && (y.2 != NameKind.local || scope.names.lookup y.1 == some NameKind.local)) &&
 scope.kind == ScopeKind.function
structure iF (N:List Str) (sc scope:Scope) (N':List Str) (ix:List (Option Nat)):Prop where
 len:ix.length=N'.length
 at_:∀ (i j:Nat) (x:Str),ix[i]?=some (some j)->N'[i]?=some x->N[j]?=some x/\scope.names.lookup x=some .free
 nocell:∀ y∈scope.names,y.2≠ .cell
 free:∀ y∈scope.names,y.2= .free->sc.names.lookup y.1=some .cell\/sc.names.lookup y.1=some .free
 loc:∀ y∈scope.names,y.2= .local->scope.names.lookup y.1=some .local
 kind:scope.kind= .function
theorem iF.of {N:List Str}{sc scope:Scope}{N':List Str}{ix:List (Option Nat)}(h:uD N sc scope N' ix=true):iF N sc scope N' ix:=by
 unfold uD at h
 simp only [Bool.and_eq_true,beq_iff_eq,List.all_eq_true] at h
 obtain ⟨⟨⟨h1,h2⟩,h3⟩,h4⟩:=h
 refine ⟨h1,fun i j x a b=>?_,fun y hy e=>?_,fun y hy e=>?_,fun y hy e=>?_,h4⟩
 ·have hm:(some j,x)∈ix.zip N':=List.mem_of_getElem? (i:=i) (by rw [List.getElem?_zip_eq_some];exact ⟨a,b⟩)
  have q:=h2 _ hm
  simp only [Bool.and_eq_true,beq_iff_eq] at q
  exact q
 ·have q:=h3 y hy
  simp only [Bool.and_eq_true,bne_iff_ne,ne_eq] at q
  exact q.1.1 e
 ·have q:=(h3 y hy).1.2
  rw [e] at q
  simpa using q
 ·have q:=(h3 y hy).2
  rw [e] at q
  simpa using q
def cW (X:Cx) (N':List Str) (scope:Scope) (C:Addr) (s₂:Shared) (H₂:Hp) (fp:List Addr):Cx where
 prog:=X.prog
 w:=X.w
 K:=X.K
 mg:=X.mg
 base:=X.base
 A:=X.A
 N:=N'
 s₀:=s₂
 H₀:=H₂
 env:=compEnvC scope (tO X.env scope.names) C X.env
 outer:=X.stack
 stack:=X.stack
 ex:=fp
 fn:=fun _=>false
 calm:=X.calm
 pn:=[]
 xe:=fun _ _=>False
section
variable {X:Cx}{N':List Str}{ix:List (Option Nat)}{scope:Scope}{pins:List (Addr×Obj)}{σ: St}{H₂:Hp}{s₂:Shared}{fp:List Addr}{C:Addr}
theorem iF.cells (S:iF X.N X.env.scope scope N' ix) (I:bG X pins σ H₂ s₂):∀ y∈scope.names,y.2= .free->∃ c,X.env.cells.lookup y.1=some c:=fun y hy e=>I.ok.has y.1 (S.free y hy e)
theorem iF.get (S:iF X.N X.env.scope scope N' ix) (I:bG X pins σ H₂ s₂) {x:Str}{c:Addr}(h:(tO X.env scope.names).lookup x=some c):X.env.cells.lookup x=some c:=by
 rcases aZ8 scope.names [] (S.cells I) h with q | q
 ·exact absurd q (by simp)
 ·exact q
theorem aI3 (S:iF X.N X.env.scope scope N' ix) (I:bG X pins σ H₂ s₂) (hf:∀ b∈fp,mI X pins H₂ b) (hC:s₂.heap.objs.size<=C) (hfC:∀ b∈fp,b < s₂.heap.objs.size):(cW X N' scope C s₂ H₂ fp).Ok where
 mod:=I.ok.mod
 kind:=S.kind
 glob:=I.ok.glob
 blt:=I.ok.blt
 above:=hC
 inj:=fun x y c a b=>I.ok.inj x y c (S.get I a) (S.get I b)
 has:=fun x h=>yV scope.names [] (.inl (mD S.nocell h))
 cab:=fun x c h=>by cases h
 hd:=I.ok.hd
 frames:=I.ok.frames
 stk:= .inl rfl
 exf:=fun b hb=>⟨Nat.ne_of_lt (Nat.lt_of_lt_of_le (hfC b hb) hC),fun x c e=>(hf b hb).2.2.2.2.1 x c (S.get I e)⟩
 bs:=I.bs
 bsz:=Nat.le_trans I.ok.bsz I.sz
 noex:=fun b o e hb=>by
  rcases (hf b hb).2.2.2.1 with z | z
  ·exact I.ok.noex b o e z
  ·exact absurd (Nat.lt_of_lt_of_le (Heap.lt_size e) (Nat.le_trans I.ok.bsz z)) (Nat.lt_irrefl _)
 exfs:=fun b hb hm=>by
  rcases List.mem_cons.mp (I.stkSub b hm) with z | z
  ·exact (hf b hb).2.1 z
  ·exact (hf b hb).2.2.1 z
 funs:=I.stack
 frf:=I.stkFree
theorem yT (S:iF X.N X.env.scope scope N' ix) (I:bG X pins σ H₂ s₂) (hf:∀ b∈fp,mI X pins H₂ b) (hfC:∀ b∈fp,b < s₂.heap.objs.size) {D:Addr}{h₁:Heap}{tk:Nat}{m:Str->Option Value}{ob:Obj}
  (hC:s₂.heap.objs.size<=C) (hD:s₂.heap.objs.size<=D) (hDC:D≠C) (old:∀ b o,s₂.heap.get? b=some o->h₁.get? b=some o) (hn:h₁.Ns C m) (hob:h₁.get? D=some ob) (hd:∀ v,ob.data≠ .cell v) :
  bG (cW X N' scope C s₂ H₂ fp) [(D,ob)] (vN ix σ) H₂ { s₂ with heap:=h₁,toks:=tk }:=by
 have fr:∀ a,s₂.heap.objs.size<=a->H₂ a=none:=fun a ha=>I.hok.fresh ha
 have cOf:∀ x c,(tO X.env scope.names).lookup x=some c->X.env.cells.lookup x=some c:=fun x c e=>S.get I e
 refine ⟨aI3 S I hf hC hfC,rfl,I.bare,Un.kept old,⟨m,hn,fun i x v e1 e2 e3=>?_⟩,fun x c e=>?_,fr C hC,fun x c e=>I.freeC x c (cOf x c e),fun p hp=>?_,I.hok.kept old,?_⟩
 ·obtain ⟨j,q1,q2⟩:=aY9 e2
  obtain ⟨n1,n2⟩:=S.at_ i j x q1 e1
  have hm:(x,NameKind.free)∈scope.names:=PySem.mem_of_lookup n2
  have hv:Vis X.env.scope x:=by
   rcases S.free _ hm rfl with z | z
   ·exact .inr (.inl z)
   ·exact .inr (.inr z)
  obtain ⟨m0,_,hl⟩:=I.loc
  obtain ⟨u,r,l⟩:=hl j x v n1 q2 hv
  refine ⟨u,r,?_⟩
  have hne:¬ X.env.kindOf x=some .local:=fun z=>by
   have z:X.env.scope.names.lookup x=some .local:=z
   rcases S.free _ hm rfl with y | y
   ·rw [y] at z;cases z
   ·rw [y] at z;cases z
  rcases l with ⟨k,_⟩ | ⟨k,c,e,z⟩
  ·exact absurd k hne
  ·obtain ⟨c',hc'⟩:=yV (env:=X.env) (x:=x) scope.names [] (.inl hm)
   have hc'':=cOf x c' hc'
   rw [e] at hc''
   cases hc''
   have kk:(cW X N' scope C s₂ H₂ fp).env.kindOf x=some .cell\/(cW X N' scope C s₂ H₂ fp).env.kindOf x=some .free:=by
    rcases e3 with y | y | y
    ·exfalso
     have:∀ {names:List (Str×NameKind)},names.lookup x=some .free ->
      (names.map fun (n,k)=>if (k == NameKind.free && X.env.scope.kind == .function && X.env.kindOf n == some .cell) then (n,NameKind.cell) else (n,k)).lookup x=some .local->False:=by
      intro names
      induction names with
      | nil=>intro a;simp at a
      | cons p r ih =>
       obtain ⟨n,k⟩:=p
       intro a b
       simp only [List.map_cons] at b
       simp only [List.lookup_cons] at a
       cases hx:x == n with
       | true =>
        rw [hx] at a
        simp only [Option.some.injEq] at a
        subst a
        split at b
        ·simp [List.lookup_cons,hx] at b
        ·simp [List.lookup_cons,hx] at b
       | false =>
        rw [hx] at a
        split at b
        ·simp only [List.lookup_cons,hx] at b;exact ih a b
        ·simp only [List.lookup_cons,hx] at b;exact ih a b
     exact this n2 y
    ·exact .inl y
    ·exact .inr y
   obtain ⟨oc,ho,hod⟩:=z
   exact .inr ⟨kk,c,hc',oc,old _ _ ho,hod⟩
 ·obtain ⟨v,o,ho,hod⟩:=I.cell x c (cOf x c e)
  exact ⟨v,o,old _ _ ho,hod⟩
 ·have hp:p∈[(D,ob)]:=hp
  have e:p=(D,ob):=by simpa using hp
  subst e
  refine ⟨hob,fr D hD,hDC,fun hb=>?_,hd⟩
  have hb:D∈frs X.stack:=hb
  rcases List.mem_cons.mp (I.stkSub D hb) with z | z
  ·exact absurd I.lt (by rw [<- z];exact Nat.not_lt.mpr hD)
  ·exact I.nofs hD z
 ·show (vN ix σ).length=N'.length
  unfold vN
  rw [List.length_map,S.len]
theorem yK (I:bG X pins σ H₂ s₂) (hf:∀ b∈fp,mI X pins H₂ b) {pins':List (Addr×Obj)}{σ':St}{H':Hp}{s':Shared}{D:Addr}{ys:List V}{its:List Value}(hC:s₂.heap.objs.size<=C) (hD:s₂.heap.objs.size<=D)
  (J:bG (cW X N' scope C s₂ H₂ fp) pins' σ' H' s') (hn:H' D=none) (hl:s'.heap.PlainList D its.toArray) (r:bP ys its) (hz:ys.length<=sizeLine):bG X pins σ (aW H' D (.lst ys)) s':=by
 have sb:Un (frs X.stack) fp H₂ H' s₂.heap s'.heap:=J.base
 have nD:∀ b u,H' b=some u->b≠D:=fun b u e=>aR e hn
 refine I.call' (ch:=fp) J.os ⟨sb.keep,sb.slot,fun b o e n hx=>?_,sb.there,fun b xs e=>?_,fun b o u e=>?_,fun b ps e=>?_⟩ (fun b u e=>?_) J.bare (fun b hb=>?_)
 ·rw [aQ (Nat.ne_of_lt (Nat.lt_of_lt_of_le (Heap.lt_size e) hD))]
  exact sb.free b o e n hx
 ·have q:=sb.tups b xs e
  rw [aQ (nD b _ q)];exact q
 ·have q:=sb.frzs b o u e
  rw [aQ (nD b _ q)];exact q
 ·obtain ⟨more,q⟩:=sb.tbls b ps e
  exact ⟨more,by rw [aQ (nD b _ q)];exact q⟩
 ·by_cases hb:b=D
  ·subst hb
   rw [aE] at e
   cases e
   obtain ⟨n,hg⟩:=hl
   exact ⟨hz,its,n,r,hg⟩
  ·rw [aQ hb] at e
   exact (J.hok b u e).stay (fun c v _ q=>q) (fun c q=>by rw [aQ (nD c _ q)];exact q) fun c xs q=>by rw [aQ (nD c _ q)];exact q
 ·obtain ⟨_,f1,_,f3,f4,f5⟩:=hf b hb
  exact ⟨f3,f1,f4,f5⟩
end
def sO (J:It) (g:TG) (tc:TT) (te:TE) (Kf:List V->Hp->Prop) (σ0:St) (H1:Hp):Prop :=
 ∃ W:Nat->Nat->List V->St->Hp->Prop,(∃ m,W 0 m [] σ0 H1)/\∀ i m ys σ' H',W i m ys σ' H'->ys.length < sizeLine /\
  ((J.stop i H'/\Kf ys H')\/(J.go i H'/\∃ N:List V->St->Hp->Prop,(∀ ys' σ2 H2,N ys' σ2 H2->∃ m',m' < m/\W (i+1) m' ys' σ2 H2)/\∀ x H'',J.yld i H' x H''->g x σ' H'' fun σ2 H2=>tc σ2 H2 fun b H3 =>
   if b=true then te σ2 H3 fun y H4=>N (ys++[y]) σ2 H4 else N ys σ2 H3))
def aQ8 (wi:TI) (ix:List (Option Nat)) (g:TG) (tc:TT) (te:TE):TE:=fun σ H Q =>
 wi σ H fun J H1=>sO J g tc te (fun ys H'=>∀ l,H' l=none->Q (.ref l) (aW H' l (.lst ys))) (vN ix σ) H1
section
variable {X:Cx}{tg elt iter:Expr}{ifs:List Expr}{scope:Scope}{pos:Pos}{N':List Str}{ix:List (Option Nat)}{wi:TI}{g:TG}{tc:TT}{te:TE}
def bD4 (X:Cx) (pins:List (Addr×Obj)) (σ: St) (Kf:List V->Hp->Prop) (acc:Value) (C:Addr) (s':Shared):Prop :=
 ∃ D H' ys,acc= .ref D/\H' D=none/\bG X pins σ (aW H' D (.lst ys)) s'/\(∃ m,s'.heap.Ns C m)/\H' C=none/\D≠C/\C≠X.env.locals/\X.s₀.heap.objs.size<=C/\(∀ x c,X.env.cells.lookup x=some c->c≠C)/\(∀ p∈X.pn++pins,p.1≠C)/\Kf ys H'
theorem sV {pins:List (Addr×Obj)}{s₂:Shared}{σ: St}{H₂:Hp}{it:Addr}{fp:List Addr}{tn:Nat->Heap->Prop}{J:It}{Kf:List V->Hp->Prop}{RR:Value->Addr->Result->Shared->Prop}{E:Value->Shared->Prop}
  (S:iF X.N X.env.scope scope N' ix) (hc:X.calm=true)
  (hg:∀ C s₂ H₂ fp,PG (cW X N' scope C s₂ H₂ fp) tg g) (ht:∀ C s₂ H₂ fp,aX3 (cW X N' scope C s₂ H₂ fp) ifs tc) (he:∀ C s₂ H₂ fp,PE (cW X N' scope C s₂ H₂ fp) elt te)
  (I2:bG X pins σ H₂ s₂) (T:aP3 X.prog X.w X.K tg J fp it tn) (st2:tn 0 s₂.heap) (f2:∀ b∈fp,mI X pins H₂ b) (w:sO J g tc te Kf (vN ix σ) H₂)
  (hR:∀ acc C s',bD4 X pins σ Kf acc C s'->RR acc C (.ok .next) s') :
  wpAny (model X.prog X.w) X.A (newList []) (fun acc s₃=>wpAny (model X.prog X.w) X.A (newFunctionEnv scope X.env.globals (tO X.env scope.names) [] X.env.qual none .none (some X.env)) (fun cenv s₄ =>
   codeAny (model X.prog X.w) X.A (.compStart (.ListComp elt [⟨tg,iter,ifs,0⟩] scope pos) 0 (.ref it) acc { cenv with scope:=relabel scope X.env }) (RR acc cenv.locals) s₄) E s₃) E s₂:=by
 obtain ⟨W,⟨m0,w0⟩,turn⟩:=w
 refine wpAny_newObj_type (wpAny_newFunctionEnv S.nocell (by intro y hy;simp at hy) (fun h₁ nsN sbN=>?_) S.kind)
 dsimp only at nsN sbN ⊢
 generalize eH:s₂.heap.push { cls:= .type "list",dict:=none,data:= .seq ([]:List Value).toArray }=G2 at nsN sbN ⊢
 have sizeC:G2.objs.size=s₂.heap.objs.size+1:=by rw [<- eH,Heap.size_push]
 have neDC:s₂.heap.objs.size≠G2.objs.size:=by rw [sizeC];exact Nat.ne_of_lt (Nat.lt_succ_self _)
 have leC:s₂.heap.objs.size<=G2.objs.size:=by rw [sizeC];exact Nat.le_succ _
 have older:∀ b,b < s₂.heap.objs.size->b≠G2.objs.size/\b≠s₂.heap.objs.size:=fun b hb=>⟨by rw [sizeC];exact Nat.ne_of_lt (Nat.lt_succ_of_lt hb),Nat.ne_of_lt hb⟩
 have keepOld:∀ b o,s₂.heap.get? b=some o->h₁.get? b=some o:=fun b o e=>sbN.extBut b o (older b (Heap.lt_size e)).1 (Heap.get?_push_of_some _ (eH ▸ Heap.get?_push_of_some _ e))
 have accNew:h₁.PlainList s₂.heap.objs.size #[]:=⟨_,sbN.extBut _ _ neDC (Heap.get?_push_of_some _ (eH ▸ Heap.get?_push_size _ rfl))⟩
 generalize eC:G2.objs.size=C at *
 generalize eD:s₂.heap.objs.size=D at *
 have hfC:∀ b∈fp,b < s₂.heap.objs.size:=fun b hb=>by
  obtain ⟨o,e,_⟩:=T.obj 0 _ st2 b hb
  exact Heap.lt_size e
 have hfD:∀ b∈fp,b≠D:=fun b hb=>by have:=hfC b hb;rw [eD] at this;exact Nat.ne_of_lt this
 have hfC':∀ b∈fp,b≠C:=fun b hb=>by have:=hfC b hb;rw [eD] at this;exact Nat.ne_of_lt (Nat.lt_of_lt_of_le this leC)
 have geD:s₂.heap.objs.size<=D:=by rw [eD];exact Nat.le_refl _
 have geC:s₂.heap.objs.size<=C:=by rw [eD];exact leC
 obtain ⟨nn,hob⟩:=id accNew
 have J1:bG (cW X N' scope C s₂ H₂ fp) [] (vN ix σ) H₂ { s₂ with heap:=h₁,toks:=s₂.toks+([]:List (Str×Value)).length } :=
  (yT S I2 f2 hfC geC geD neDC keepOld nsN hob (fun v z=>by cases z)).pins_of (fun p hp=>absurd hp (by simp))
 have nfsD:D∉frs X.stack:=fun hb=>by
  rcases List.mem_cons.mp (I2.stkSub D hb) with z | z
  ·exact absurd I2.lt (by rw [<- z];exact Nat.not_lt.mpr geD)
  ·exact I2.nofs geD z
 have cOf:∀ x c,(tO X.env scope.names).lookup x=some c->c≠D/\c≠C:=fun x c e=>by
  obtain ⟨v,z⟩:=I2.cell x c (S.get I2 e)
  have:=z.lt
  rw [eD] at this
  exact ⟨Nat.ne_of_lt this,Nat.ne_of_lt (Nat.lt_of_lt_of_le this leC)⟩
 have fpk:∀ {pl:List (Addr×Obj)}{H':Hp},(∀ b∈fp,H' b=none)->(∀ p∈pl,p.1∉fp)->∀ b∈fp,mI (cW X N' scope C s₂ H₂ fp) pl H' b:=fun {pl H'} hn hp b hb =>
  ⟨hn b hb,hfC' b hb,fun z=>by
    rcases List.mem_cons.mp (I2.stkSub b z) with q | q
    ·exact (f2 b hb).2.1 q
    ·exact (f2 b hb).2.2.1 q,
   .inl hb,fun x c e=>(f2 b hb).2.2.2.2.1 x c (S.get I2 e),fun p hp' z=>hp p (by simpa [cW] using hp') (by rw [z];exact hb)⟩
 have dpk:∀ {H':Hp},H' D=none->∀ b∈[D],mI (cW X N' scope C s₂ H₂ fp) [] H' b:=fun {H'} hn b hb=>by
  have e:b=D:=by simpa using hb
  subst e
  exact ⟨hn,neDC,nfsD,.inr geD,fun x c e=>(cOf x c e).1,fun p hp=>absurd hp (by simp [cW])⟩
 have loop:codeAny (model X.prog X.w) X.A (.compLoop (.ListComp elt [⟨tg,iter,ifs,0⟩] scope pos) 0 (.ref it) (.ref D) (compEnvC scope (tO X.env scope.names) C X.env)) (RR (.ref D) C) { s₂ with heap:=h₁,toks:=s₂.toks+([]:List (Str×Value)).length }:=by
  refine aK9 (fun n s'=>∃ i ys σ' H' its,bG (cW X N' scope C s₂ H₂ fp) [] σ' H' s'/\tn i s'.heap/\(∀ b∈fp,H' b=none)/\H' D=none/\s'.heap.PlainList D its.toArray/\bP ys its/\W i n ys σ' H') ?_ m0
   ⟨0,[],_,H₂,[],J1,T.keep _ _ _ st2 fun b _ o e=>keepOld b o e,fun b hb=>(f2 b hb).1,I2.hok.fresh geD,accNew,.nil,w0⟩
  rintro n s3 ⟨i,ys,σ3,H3,its,I3,st3,fr3,dn3,pl3,rv3,w3⟩
  obtain ⟨nn3,hob3⟩:=id pl3
  have oD:∀ b∈[D],∃ o,s3.heap.get? b=some o/\∀ v,o.data≠ .cell v:=fun b hb=>by
   have e:b=D:=by simpa using hb
   subst e
   exact ⟨_,hob3,fun v z=>by cases z⟩
  have I3':bG (cW X N' scope C s₂ H₂ fp) (iD [D] s3.heap) σ3 H3 s3:=by
   have:=I3.pinned (dpk dn3) oD
   simpa using this
  have pD:(D,({ cls:= .type "list",data:= .seq its.toArray nn3 }:Obj))∈iD [D] s3.heap:=iA (by simp) hob3
  have npD:∀ p∈iD [D] s3.heap,p.1∉fp:=fun p hp z=>by
   have e:p.1=D:=by simpa using (sX hp).1
   exact hfD _ z e
  obtain ⟨hys,tt⟩:=turn i n ys σ3 H3 w3
  rcases tt with ⟨stop,qn⟩ | ⟨go,N,hN,step⟩
  ·refine wpAny_mono (T.done (cW X N' scope C s₂ H₂ fp) rfl rfl rfl hc i (iD [D] s3.heap) s3 σ3 H3 (fun _ _=>False) I3' (fpk fr3 npD) st3 stop) (fun r s4 ⟨hr,I4⟩=>?_) fun _ _ z=>z
   subst hr
   have g4:=(I4.pin _ (List.mem_append_right _ pD)).1
   refine hR _ _ _ ⟨D,H3,ys,rfl,dn3,yK I2 f2 geC geD I4 dn3 ⟨nn3,g4⟩ rv3 (Nat.le_of_lt hys),?_,?_,neDC,?_,?_,?_,?_,qn⟩
   ·obtain ⟨m,hm,_⟩:=I4.loc
    exact ⟨m,hm⟩
   ·exact I4.free
   ·exact Nat.ne_of_gt (Nat.lt_of_lt_of_le I2.lt geC)
   ·exact Nat.le_trans I2.sz geC
   ·intro x c e z
    obtain ⟨v,q⟩:=I2.cell x c e
    exact absurd (Nat.lt_of_lt_of_le q.lt geC) (by rw [z];exact Nat.lt_irrefl _)
   ·intro p hp z
    exact absurd (Nat.lt_of_lt_of_le (Heap.lt_size (I2.pin p hp).1) geC) (by rw [z];exact Nat.lt_irrefl _)
  ·refine wpAny_mono (T.item (cW X N' scope C s₂ H₂ fp) rfl rfl rfl hc i (iD [D] s3.heap) s3 σ3 H3 (fun _ _=>False) I3' (fpk fr3 npD) st3 go) (fun r s4 ⟨u,hr,h4⟩=>?_) fun _ _ z=>z
   subst hr
   refine wpAny_mono h4 (fun _ s5 ⟨x,H5,I5,r5,y5,st5,fr5⟩=>?_) fun _ _ z=>z
   have I5':=I5.pinned (fpk fr5 npD) (T.obj _ _ st5)
   refine wpAny_mono (hg C s₂ H₂ fp _ s5 σ3 H5 x u _ I5' r5 (step x H5 y5)) (fun _ s6 ⟨σ6,H6,I6,q6⟩=>?_) fun _ _ z=>z
   refine wpAny_mono (ht C s₂ H₂ fp _ s6 σ6 H6 _ I6 q6) (fun b s7 ⟨H7,I7,q7⟩=>?_) fun _ _ z=>z
   have fin:∀ {s8:Shared}{σ8:St}{H8:Hp},bG (cW X N' scope C s₂ H₂ fp) (iD [D] s3.heap++iD fp s5.heap) σ8 H8 s8->s8.heap.get? D=some { cls:= .type "list",data:= .seq its.toArray nn3 }/\H8 D=none /\
     tn (i+1) s8.heap/\∀ b∈fp,H8 b=none:=fun {s8 σ8 H8} I8=>by
    have q:=I8.pin _ (List.mem_append_right _ (List.mem_append_left _ pD))
    refine ⟨q.1,q.2.1,T.keep _ _ _ st5 fun b hb o e=>(I8.pin (b,o) (List.mem_append_right _ (List.mem_append_right _ (iA hb e)))).1,fun b hb=>?_⟩
    obtain ⟨o,e,d⟩:=T.obj _ _ st5 b hb
    exact (I8.pin (b,o) (List.mem_append_right _ (List.mem_append_right _ (iA hb e)))).2.1
   cases b with
   | false =>
    obtain ⟨m',hm,w7⟩:=hN _ _ _ q7
    obtain ⟨a1,a2,a3,a4⟩:=fin I7
    exact ⟨m',hm,i+1,ys,σ6,H7,its,I7.pins_of fun p hp=>absurd hp (by simp),a3,a4,a2,⟨nn3,a1⟩,rv3,w7⟩
   | true =>
    refine wpAny_mono (he C s₂ H₂ fp _ s7 σ6 H7 _ I7 q7) (fun v s8 ⟨y,H8,I8,r8,n8⟩=>?_) fun _ _ z=>z
    obtain ⟨m',hm,w8⟩:=hN _ _ _ n8
    obtain ⟨a1,a2,a3,a4⟩:=fin I8
    have hsz:its.toArray.size<=sizeLine:=by
     have:=rv3.length
     rw [List.size_toArray]
     omega
    refine wpAny_list_append_plain (hsz:=hsz) ⟨nn3,a1⟩ fun h9 hl9 hs9=>?_
    have I9:bG (cW X N' scope C s₂ H₂ fp) [] σ6 H8 { s8 with heap:=h9 } :=
     (I8.pins_of (pins':=[]) fun p hp=>absurd hp (by simp)).turned (t':=s8.toks) (fun b o hb e=>(hs9.2 b hb).trans e) a2 neDC (.inr geD) (fun x c e=>(cOf x c e).1) fun p hp=>absurd hp (by simp [cW])
    refine ⟨m',hm,i+1,ys++[y],σ6,H8,its++[v],I9,T.keep _ _ _ a3 fun b hb o e=>(hs9.2 b (hfD b hb)).trans e,a4,a2,?_,rv3.append (.cons r8 .nil),w8⟩
    have e:(its++[v]).toArray=its.toArray.push v:=by simp
    rw [e];exact hl9
 exact codeAny_compStart_list loop (T.self _ 0 _ _ _ (T.keep _ _ _ st2 fun b _ o e=>keepOld b o e) loop)
theorem dG (N':List Str) (ix:List (Option Nat)) (hi:PI X tg iter wi) (hg:∀ C s₂ H₂ fp,PG (cW X N' scope C s₂ H₂ fp) tg g) (ht:∀ C s₂ H₂ fp,aX3 (cW X N' scope C s₂ H₂ fp) ifs tc)
  (he:∀ C s₂ H₂ fp,PE (cW X N' scope C s₂ H₂ fp) elt te) (S:uD X.N X.env.scope scope N' ix=true:=by rfl) (hc:X.calm=true:=by rfl) (hs:∀ x,foldedSetIterable iter X.env x=pure x:=by intro _;rfl) :
  PE X (.ListComp elt [⟨tg,iter,ifs,0⟩] scope pos) (aQ8 wi ix g tc te):=by
 intro pins s σ H Q I h
 have S:=iF.of S
 rw [eval_ListComp]
 refine wpAny_comprehension_free (use:=none) (cl:=tO X.env scope.names) rfl hs (qE fun y hy e=>I.ok.has y.1 (S.free y hy e)) S.kind S.loc (dQ (hi pins s σ H _ I h) fun xv s₁ h₁=>dQ h₁ fun itv s₂ h₂=>?_)
 obtain ⟨it,fp,tn,J,H₂,rfl,I2,T,st2,f2,w⟩:=h₂
 refine sV (RR:=fun acc C=>compPost (model X.prog X.w) X.A X.xe none (EP X pins σ Q) acc C) S hc hg ht he I2 T st2 f2 w fun acc C s' ce=>?_
 obtain ⟨D,H',ys,rfl,dn,J',hm,cn,dc,c1,c2,c3,c4,kf⟩:=ce
 obtain ⟨m,hm⟩:=hm
 refine ⟨m,hm,fun h' hs'=>⟨.ref D,_,J'.turned (t':=s'.toks) (fun b o hb e=>(hs'.2 b hb).trans e) (by rw [aQ dc.symm];exact cn) c1 (.inr c2) c3 c4,rfl,kf D dn⟩⟩
theorem aB7 (N':List Str) (ix:List (Option Nat)) {i:Nat}{x:Str}{pos' spos:Pos}(hN:X.N.Nodup) (hxi:X.N[i]?=some x) (hx:Loc X.env.scope x) (hi:PI X tg iter wi) (hg:∀ C s₂ H₂ fp,PG (cW X N' scope C s₂ H₂ fp) tg g) (ht:∀ C s₂ H₂ fp,aX3 (cW X N' scope C s₂ H₂ fp) ifs tc)
  (he:∀ C s₂ H₂ fp,PE (cW X N' scope C s₂ H₂ fp) elt te) (S:uD X.N X.env.scope scope N' ix=true:=by rfl) (hc:X.calm=true:=by rfl) (hs:∀ x,foldedSetIterable iter X.env x=pure x:=by intro _;rfl)
  (hsw:swapsWith (.ListComp elt [⟨tg,iter,ifs,0⟩] scope pos) (some (.Name x pos')) spos.line X.env=pure true:=by rfl) (hf:X.fn x=true\/X.env.scope.names.lookup x=some .local:=by first | exact .inl rfl | exact .inr rfl | assumption) :
  PS X (.Assign [.Name x pos'] (.ListComp elt [⟨tg,iter,ifs,0⟩] scope pos) spos) (bX0 (aQ8 wi ix g tc te) (aB5 i)):=by
 intro pins s σ H D I h
 have S:=iF.of S
 rw [exec_Assign_Name_used _ _ _ _ hsw]
 refine wpAny_bind (wpAny_standAt (wpAny_bind ?_))
 show wpAny _ X.A (do let _ <- comprehension (.ListComp elt [⟨tg,iter,ifs,0⟩] scope pos) scope X.env _ (newList []) false (eval iter X.env) (some (assign (.Name x pos') X.env))) _ _ s
 refine wpAny_bind (wpAny_mono (wpAny_comprehension_free (use:=some (assign (.Name x pos') X.env)) (cl:=tO X.env scope.names) (Q:=fun _ s'=>SP X pins D .next s') rfl hs (qE fun y hy e=>I.ok.has y.1 (S.free y hy e)) S.kind S.loc
  (dQ (hi pins s σ H _ I h) fun xv s₁ h₁=>dQ h₁ fun itv s₂ h₂=>?_)) (fun _ s' hq=>wpAny_pure (wpAny_pure hq)) fun _ _ e=>e)
 obtain ⟨it,fp,tn,J,H₂,rfl,I2,T,st2,f2,w⟩:=h₂
 refine sV (RR:=fun acc C=>compPost (model X.prog X.w) X.A X.xe (some (assign (.Name x pos') X.env)) (fun _ s'=>SP X pins D .next s') acc C) S hc hg ht he I2 T st2 f2 w fun acc C s' ce=>?_
 obtain ⟨D',H',ys,rfl,dn,J',hm,cn,dc,c1,c2,c3,c4,kf⟩:=ce
 obtain ⟨m,hm⟩:=hm
 show wpAny _ X.A (assign (.Name x pos') X.env (.ref D')) _ _ _
 refine wpAny_assign_Name (rE (v:= .ref D') J' hN hxi hx rfl (fun s2 J2 hsb=>?_) hf)
 obtain ⟨a,hsb,ha⟩:=hsb
 have hCa:C≠a:=by
  rcases ha with z | z
  ·rw [z];exact c1
  ·exact (c3 x a z).symm
 refine ⟨m,hm.sameBut hsb hCa,fun h' hs'=>?_⟩
 exact ⟨_,_,J2.turned (t':=s2.toks) (fun b o hb e=>(hs'.2 b hb).trans e) (by rw [aQ dc.symm];exact cn) c1 (.inr c2) c3 c4,kf D' dn⟩
theorem eO {K:PySem.W.Frag}{a:Addr}{xs:List V}{Kf:List V->Hp->Prop}{σ0:St}{H1:Hp}(Pv:Nat->List V->St->Hp->Prop) (hz:xs.length < sizeLine) (h0:Pv 0 [] σ0 H1) (hb:∀ i ys σ H,Pv i ys σ H->ys.length<=i) (hl:∀ i ys σ H,i<=xs.length->Pv i ys σ H->bN K H a xs)
  (hs:∀ i x ys σ H,xs[i]?=some x->Pv i ys σ H->g x σ H fun σ2 H2=>tc σ2 H2 fun b H3=>if b=true then te σ2 H3 fun y H4=>Pv (i+1) (ys++[y]) σ2 H4 else Pv (i+1) ys σ2 H3) (hd:∀ ys σ H,Pv xs.length ys σ H->Kf ys H):sO (Itl K a) g tc te Kf σ0 H1:=by
 refine ⟨fun i m ys σ H=>m=xs.length - i/\i<=xs.length/\Pv i ys σ H,⟨xs.length,by simp,Nat.zero_le _,h0⟩,?_⟩
 rintro i m ys σ H ⟨rfl,hi,p⟩
 have q:=hl i ys σ H hi p
 refine ⟨Nat.lt_of_le_of_lt (hb _ _ _ _ p) (Nat.lt_of_le_of_lt hi hz),?_⟩
 by_cases hlt:i < xs.length
 ·refine .inr ⟨⟨xs,xs[i],q,by simp [hlt]⟩,Pv (i+1),fun ys' σ' H' p'=>⟨xs.length - (i+1),Nat.sub_lt_sub_left hlt (Nat.lt_succ_self i),rfl,hlt,p'⟩,fun x H' y=>?_⟩
  obtain ⟨e,y⟩:=y
  subst e
  exact hs i x ys σ _ (y xs q) p
 ·have e:i=xs.length:=by omega
  subst e
  exact .inl ⟨⟨xs,q,Nat.le_refl _⟩,hd ys σ H p⟩
theorem qM {K:PySem.W.Frag}{a:Addr}{xs:List V}{Kf:List V->Hp->Prop}{σ0:St}{H1:Hp}(Pv:Nat->List V->St->Hp->Prop) (hz:xs.length < sizeLine) (h0:Pv 0 [] σ0 H1) (hb:∀ i ys σ H,Pv i ys σ H->ys.length<=i) (hl:∀ i ys σ H,i<=xs.length->Pv i ys σ H->aX K H a xs)
  (hs:∀ i x ys σ H,xs[i]?=some x->Pv i ys σ H->g x σ H fun σ2 H2=>tc σ2 H2 fun b H3=>if b=true then te σ2 H3 fun y H4=>Pv (i+1) (ys++[y]) σ2 H4 else Pv (i+1) ys σ2 H3) (hd:∀ ys σ H,Pv xs.length ys σ H->Kf ys H):sO (Itt K a) g tc te Kf σ0 H1:=by
 refine ⟨fun i m ys σ H=>m=xs.length - i/\i<=xs.length/\Pv i ys σ H,⟨xs.length,by simp,Nat.zero_le _,h0⟩,?_⟩
 rintro i m ys σ H ⟨rfl,hi,p⟩
 have q:=hl i ys σ H hi p
 refine ⟨Nat.lt_of_le_of_lt (hb _ _ _ _ p) (Nat.lt_of_le_of_lt hi hz),?_⟩
 by_cases hlt:i < xs.length
 ·refine .inr ⟨⟨xs,xs[i],q,by simp [hlt]⟩,Pv (i+1),fun ys' σ' H' p'=>⟨xs.length - (i+1),Nat.sub_lt_sub_left hlt (Nat.lt_succ_self i),rfl,hlt,p'⟩,fun x H' y=>?_⟩
  obtain ⟨e,y⟩:=y
  subst e
  exact hs i x ys σ _ (y xs q) p
 ·have e:i=xs.length:=by omega
  subst e
  exact .inl ⟨⟨xs,q,Nat.le_refl _⟩,hd ys σ H p⟩
theorem fR {lo:Int}{n:Nat}{Kf:List V->Hp->Prop}{σ0:St}{H1:Hp}(Pv:Nat->List V->St->Hp->Prop) (hz:n < sizeLine) (h0:Pv 0 [] σ0 H1) (hb:∀ i ys σ H,Pv i ys σ H->ys.length<=i)
  (hs:∀ i ys σ H,i < n->Pv i ys σ H->g (.int (lo+i)) σ H fun σ2 H2=>tc σ2 H2 fun b H3=>if b=true then te σ2 H3 fun y H4=>Pv (i+1) (ys++[y]) σ2 H4 else Pv (i+1) ys σ2 H3) (hd:∀ ys σ H,Pv n ys σ H->Kf ys H):sO (Itr lo n) g tc te Kf σ0 H1:=by
 refine ⟨fun i m ys σ H=>m=n - i/\i<=n/\Pv i ys σ H,⟨n,by simp,Nat.zero_le _,h0⟩,?_⟩
 rintro i m ys σ H ⟨rfl,hi,p⟩
 refine ⟨Nat.lt_of_le_of_lt (hb _ _ _ _ p) (Nat.lt_of_le_of_lt hi hz),?_⟩
 by_cases hlt:i < n
 ·refine .inr ⟨hlt,Pv (i+1),fun ys' σ' H' p'=>⟨n - (i+1),Nat.sub_lt_sub_left hlt (Nat.lt_succ_self i),rfl,hlt,p'⟩,fun x H' y=>?_⟩
  obtain ⟨e,y⟩:=y
  subst e y
  exact hs i ys σ _ hlt p
 ·have e:i=n:=by omega
  subst e
  exact .inl ⟨Nat.le_refl _,hd ys σ H p⟩
end
theorem aZ1:typeLookup (.type "list_reverseiterator") "__len__"=pure none:=by rw [typeLookup_type,builtinLookup_eq_fast];kernel_rfl
theorem bF3:typeLookup (.type "list_reverseiterator") "__length_hint__"=pure (some (.builtin "list_reverseiterator.__length_hint__")):=by rw [typeLookup_type,builtinLookup_eq_fast];kernel_rfl
abbrev newL:Obj:={ cls:= .type "list",data:= .seq #[] }
section
variable {prog:Program}{w:World}{A:Around}{E:Value->Shared->Prop}{Q:Value->Shared->Prop}{s:Shared}{it p:Addr}{items:Array Value}
theorem wB (hh:A.handled=none) (ne:p≠it) (hi:s.heap.IsRevIter it p ((items.size:Int) - 1)) (hp:s.heap.IsList p items) (hz:items.size<=sizeLine)
  (k:∀ t got c,(∀ b o,b≠it->s.heap.get? b=some o->t.heap.get? b=some o)->t.gens=s.gens->t.os=s.os ->
   t.heap.get? s.heap.objs.size=some { cls:= .type "list",dict:=none,data:= .seq got c,slots:= #[] }->got.toList=items.toList.reverse->Q (.ref s.heap.objs.size) t) :
  wpAny (model prog w) A (call (.type "list") [.ref it]) Q E s:=by
 let W:=(Walks.listRev (prog:=prog) (w:=w) (A:=A.in1.in1) hh it p ne items).toS
 have st0:0<=items.size/\s.heap.IsRevIter it p ((items.size:Int) - 1 - ((0:Nat):Int))/\s.heap.IsList p items:=⟨Nat.zero_le _,by simpa using hi,hp⟩
 have itLt:it < s.heap.objs.size:=by
  obtain ⟨o,e,_⟩:=hi
  exact Heap.lt_size e
 have pLt:p < s.heap.objs.size:=by
  obtain ⟨o,e,_⟩:=hp
  exact Heap.lt_size e
 have fresh:s.heap.objs.size∉[it,p]:=fun m=>by
  rcases List.mem_cons.mp m with z | z
  ·exact Nat.lt_irrefl _ (z ▸ itLt)
  ·exact Nat.lt_irrefl _ ((List.mem_singleton.mp z) ▸ pLt)
 have neS:s.heap.objs.size≠it:=fun z=>fresh (by rw [z];exact List.mem_cons_self)
 refine callType_codes (Q₁:=fun o t=>o= .ref s.heap.objs.size/\t={ s with heap:=s.heap.push newL }) F.called_list (F.typeCall_list_1 _) F.entry_list_init (code_list_new _ ⟨rfl,rfl⟩) ?_
 rintro _ _ ⟨rfl,rfl⟩
 have hS:(s.heap.push newL).get? s.heap.objs.size=some newL:=Heap.get?_push_size _ rfl
 refine ⟨⟨_,hS,rfl⟩,F.args_list_init_2 _ _,?_⟩
 refine wpAny_bind (m:=Builtin.List.listItems (.ref s.heap.objs.size)) (wpAny_bind (wpAny_seqItems hS rfl (wpAny_pure ?_)))
 refine wpAny_bind (m:=updateSeq s.heap.objs.size fun _=> #[]) (wpAny_updateSeq hS rfl (wpAny_bind (wpAny_letGo ?_)))
 have hS2:=Heap.get?_update_self (Obj.mapSeq fun _=>(#[]:Array Value)) hS rfl
 have older:∀ b o,s.heap.get? b=some o->((s.heap.push newL).update s.heap.objs.size (Obj.mapSeq fun _=>(#[]:Array Value))).get? b=some o:=fun b o e =>
  (Heap.get?_update_other _ _ (Nat.ne_of_gt (Heap.lt_size e))).trans (Heap.get?_push_of_some _ e)
 have st1:=W.frame 0 s ((s.heap.push newL).update s.heap.objs.size (Obj.mapSeq fun _=>(#[]:Array Value))) s.toks st0 (Nat.le_refl _) fun b _ o e=>older b o e
 have ty:∀ i t,(fun (i:Nat) (t:Shared)=>i<=items.size/\t.heap.IsRevIter it p ((items.size:Int) - 1 - (i:Int))/\t.heap.IsList p items) i t->t.TypeIs (.ref it) "list_reverseiterator":=fun i t z=>z.2.1.typeIs
 unfold Builtin.List.listExtendWith
 refine wpAny_bind (wpAny_typeOf (ty 0 _ st1) ?_)
 have same:Builtin.List.listSameRef (.ref s.heap.objs.size) (.ref it)=false:=by simp [Builtin.List.listSameRef,neS]
 rw [if_neg (by rw [same];decide)]
 refine wpAny_bind (W.self 0 _ _ _ st1 (wpAny_bind (wpAny_holding ?_)))
 unfold Builtin.List.listLengthHint
 refine wpAny_bind (wpAny_specialOf (ty 0 _ st1) aZ1 ?_)
 refine wpAny_bind (m:=specialOf (Value.ref it) (Str.ofString "__length_hint__")) (wpAny_specialOf (ty 0 _ st1) bF3 ?_)
 generalize hid:("list_reverseiterator.__length_hint__": String)=id0
 wp_delta
 rw [show splitId id0=some ("list_reverseiterator","__length_hint__") from by subst hid;decide +kernel]
 subst hid
 refine wpAny_bind (wpAny_isInstance (b:=true) (ty 0 _ st1) (by rw [isSubtype_type];kernel_rfl) (wpAny_pure ?_))
 rw [if_neg (by decide)]
 refine wpAny_pure ⟨plainId_quiet F.plain_extend_loop _,codeAny_extend_loopS W hz _ fresh _ items.size 0 _ _ _ rfl (Nat.zero_le _) st1 hS2 (ItemsOf.nil _) fun t got c mv at' its=>⟨rfl,?_⟩⟩
 refine k t got c (fun b o hb e=>mv.heap b o (fun m=>?_) (older b o e)) mv.gens mv.os at' ?_
 ·rcases List.mem_cons.mp m with z | z
  ·exact absurd (Heap.lt_size e) (by rw [z];exact Nat.lt_irrefl _)
  ·exact hb (List.mem_singleton.mp z)
 ·obtain ⟨len,each⟩:=its
  refine List.ext_getElem? fun j=>?_
  by_cases hj:j < items.size
  ·have g:got[j]?=some got[j]:=Array.getElem?_eq_getElem (by omega)
   rw [List.getElem?_reverse (by simpa using hj),Array.getElem?_toList,Array.getElem?_toList,g, <- each j _ g]
   simp
  ·rw [List.getElem?_eq_none (by simp;omega),List.getElem?_eq_none (by simp;omega)]
end
def aT7 (K:PySem.W.Frag) (te:TE):TE:=fun σ H Q=>te σ H fun x H1=>∃ a ys,x= .ref a/\bN K H1 a ys/\∀ l,H1 l=none->Q (.ref l) (aW H1 l (.lst ys.reverse))
theorem pH {X:Cx}{e:Expr}{te:TE}{p1 p2 pos1 pos2:Pos}(he:PE X e te) (g1:Gl X "list") (m1:X.mg "list"=none) (g2:Gl X "reversed") (m2:X.mg "reversed"=none) (hc:X.calm=true:=by rfl)
  (hs1:starEach [.Call (.Name "reversed" p2) [e] [] pos2] X.env=[(false,eval (.Call (.Name "reversed" p2) [e] [] pos2) X.env)]:=by rfl) (hs2:starEach [e] X.env=[(false,eval e X.env)]:=by rfl) :
  PE X (.Call (.Name "list" p1) [.Call (.Name "reversed" p2) [e] [] pos2] [] pos1) (aT7 X.K te):=by
 intro pins s σ H Q I h
 refine wpAny_Call_Name_kw (jL I g1 m1 PyProof.Rows.boot_list ?_)
 refine PyProof.Rows.callWith_type1 ?_ hs1 rfl
 rw [hs1]
 refine Calls.spliced_cons (wpAny_Call_Name_kw (jL I g2 m2 PyProof.Rows.boot_reversed ?_))
 refine PyProof.Rows.callWith_type1 ?_ hs2 rfl
 rw [hs2]
 refine Calls.spliced_cons (dQ (he pins s σ H _ I h) fun u s1 ⟨x,H1,I1,r1,a,ys,ex,hq,q⟩=>Calls.spliced_nil ?_)
 subst ex
 cases r1
 obtain ⟨its,rv,pl,hz⟩:=I1.list hq
 have il:=pl.isList
 refine call_reversed_list il (Calls.spliced_nil ?_)
 have I2:bG X pins σ H1 { s1 with heap:=s1.heap.push (revObj a ((its.toArray.size:Int) - 1)) }:=I1.kept (t':=s1.toks) fun b o e=>Heap.get?_push_of_some _ e
 have aLt:a < s1.heap.objs.size:=by
  obtain ⟨o,e,_⟩:=il
  exact Heap.lt_size e
 have len:=rv.length
 obtain ⟨f0,f1,f2,f3,f4,f5⟩:mI X pins H1 s1.heap.objs.size:=I1.fpOk (Nat.le_refl _) (I1.hok.fresh (Nat.le_refl _))
 refine wB (p:=a) (items:=its.toArray) (I.ok.hd hc) (Nat.ne_of_lt aLt) ⟨_,Heap.get?_push_size _ rfl,rfl,rfl⟩ (il.at fun o e=>Heap.get?_push_of_some _ e) (by rw [List.size_toArray];omega) ?_
 intro t got c keep gens os at' eg
 obtain ⟨D,eD⟩:∃ D,(s1.heap.push (revObj a ((its.toArray.size:Int) - 1))).objs.size=D:=⟨_,rfl⟩
 have hD:(s1.heap.push (revObj a ((its.toArray.size:Int) - 1))).objs.size<=D:=Nat.le_of_eq eD
 dsimp only at at' ⊢
 rw [eD] at at' ⊢
 have fD:H1 D=none:=I2.hok.fresh hD
 have neT:∀ b u,H1 b=some u->b≠s1.heap.objs.size:=fun b u e z=>by rw [z,f0] at e;cases e
 refine ⟨.ref D,aW H1 D (.lst ys.reverse),I2.call' (ch:=[s1.heap.objs.size]) os ⟨fun b o e n _ hx=>keep b o (fun z=>hx (by simp [z])) e,fun b o e n _ hx=>⟨o.slots,keep b o (fun z=>hx (by simp [z])) e⟩,fun b o e n _=>?_,fun b o e hx=>⟨o,keep b o (fun z=>hx (by simp [z])) e⟩,fun b xs e=>?_,fun b o u e=>?_,fun b ps e=>⟨#[],?_⟩⟩ (fun b u e=>?_) (by rw [gens];exact I2.bare) (fun b hb=>?_),rfl,q D fD⟩
 ·rw [aQ (fun z=>absurd (Heap.lt_size e) (by rw [z];exact Nat.not_lt.mpr hD))];exact n
 ·rw [aQ (aR e fD)];exact e
 ·rw [aQ (aR e fD)];exact e
 ·rw [aQ (aR e fD),e];simp
 ·by_cases hb:b=D
  ·subst hb
   rw [aE] at e
   cases e
   have at2:t.heap.get? b=some { cls:= .type "list",dict:=none,data:= .seq its.reverse.toArray c,slots:= #[] }:=by
    rw [at', <- Array.toArray_toList (xs:=got),eg]
   exact ⟨by rw [List.length_reverse];exact hz,its.reverse,c,bP.reverse rv,at2⟩
  ·rw [aQ hb] at e
   refine (I2.hok b u e).stay (fun c' v hc' q'=>keep c' v ?_ q') (fun c' q'=>by rw [aQ (aR q' fD)];exact q') fun c' xs q'=>by rw [aQ (aR q' fD)];exact q'
   rcases hc' with z | z
   ·rw [z];exact neT b u e
   ·exact neT c' _ z
 ·have z:b=s1.heap.objs.size:=by simpa using hb
  subst z
  exact ⟨f3,f1,f4,f5⟩
def cD3 (i j:Int):Prop:=0 < j/\j < 2 ^ 250
theorem jZ {X:Cx}:lB X (binaryOp .FloorDiv) (rI cD3 fun i j=> .int (i / j)):=opI fun i j _ _ _ _ _ hc q=>by
 obtain ⟨h0,h1⟩:=hc
 refine floordiv_int (by omega) ?_ (.inl (PyProof.noPylong_of_log2 ?_))
 ·rw [Int.fdiv_eq_ediv_of_nonneg i (by omega)];exact q
 ·have h2:j.natAbs < 2 ^ 250:=by
   have e:((j.natAbs:Nat):Int)=j:=Int.natAbs_of_nonneg (by omega)
   have:((j.natAbs:Nat):Int) < ((2 ^ 250:Nat):Int):=by rw [e];exact_mod_cast h1
   exact Int.ofNat_lt.mp this
  have h3:j.natAbs≠0:=by omega
  have h4:j.natAbs.log2 < 250:=(Nat.log2_lt h3).mpr h2
  exact Nat.lt_of_lt_of_le h4 (by decide)
def eK (sd n:Int) (l:Addr):List (Key×V):=[(.inr "seed",.int sd),(.inr "number",.int n),(.inr "left",.ref l)]
theorem ksn:¬ ((Sum.inr ("seed": Str):Key)=Sum.inr ("number": Str)):=by decide +kernel
theorem ksl:¬ ((Sum.inr ("seed": Str):Key)=Sum.inr ("left": Str)):=by decide +kernel
theorem knl:¬ ((Sum.inr ("number": Str):Key)=Sum.inr ("left": Str)):=by decide +kernel
theorem kns:¬ ((Sum.inr ("number": Str):Key)=Sum.inr ("seed": Str)):=by decide +kernel
theorem kls:¬ ((Sum.inr ("left": Str):Key)=Sum.inr ("seed": Str)):=by decide +kernel
theorem kln:¬ ((Sum.inr ("left": Str):Key)=Sum.inr ("number": Str)):=by decide +kernel
theorem aH3 (sd n:Int) (l:Addr):cM (eK sd n l) (Sum.inr "seed": Key)=some (.int sd):=by unfold eK;rw [dF rfl]
theorem wL (sd n:Int) (l:Addr):cM (eK sd n l) (Sum.inr "number": Key)=some (.int n):=by unfold eK;rw [cS ksn,dF rfl]
theorem aM3 (sd n:Int) (l:Addr):cM (eK sd n l) (Sum.inr "left": Key)=some (.ref l):=by unfold eK;rw [cS ksl,cS knl,dF rfl]
theorem aZ6 (sd n v:Int) (l:Addr):dB (eK sd n l) (Sum.inr "seed": Key) (.int v)=eK v n l:=by
 unfold dB eK
 simp
 exact ⟨fun z=>absurd (congrArg Sum.inr z) kns,fun z=>absurd (congrArg Sum.inr z) kls⟩
theorem yN (sd n v:Int) (l:Addr):dB (eK sd n l) (Sum.inr "number": Key) (.int v)=eK sd v l:=by
 unfold dB eK
 simp
 exact ⟨fun z=>absurd (congrArg Sum.inr z) ksn,fun z=>absurd (congrArg Sum.inr z) kln⟩
structure cP (H:Hp) (d l:Addr) (sd n:Int) (ls:List Int):Prop where
 dc:H d=some (.dK (eK sd n l))
 lc:H l=some (.lst (ls.map V.int))
 s0:0<=sd
 s1:sd < 2147483647
 n0:0<=n
 l0:∀ x∈ls,0<=x
def eB (H:Hp) (d l:Addr):Prop:=∃ sd n ls,cP H d l sd n ls
theorem cP.ne {H:Hp}{d l:Addr}{sd n:Int}{ls:List Int}(D:cP H d l sd n ls):d≠l:=fN D.dc D.lc (by intro z;cases z)
def eM (d l:Addr) (H H':Hp):Prop:=∀ b o,H b=some o->b≠d->b≠l->H' b=some o
theorem eM.refl {d l:Addr}(H:Hp):eM d l H H:=fun _ _ e _ _=>e
theorem eM.trans {d l:Addr}{H H1 H2:Hp}(a:eM d l H H1) (b:eM d l H1 H2):eM d l H H2:=fun c o e h1 h2=>b c o (a c o e h1 h2) h1 h2
theorem eM.of {d l:Addr}{H H':Hp}(s:aZ H H'):eM d l H H':=fun c o e _ _=>s c o e
theorem eM.upd_d {d l:Addr}{H:Hp}{o:HO}:eM d l H (aW H d o):=fun b u e h1 _=>by rw [aQ h1];exact e
theorem eM.upd_l {d l:Addr}{H:Hp}{o:HO}:eM d l H (aW H l o):=fun b u e _ h1=>by rw [aQ h1];exact e
theorem aB {H:Hp}{p:Addr}(h:H p=none) (o:HO):aZ H (aW H p o):=fun b u q=>by rw [aQ (aR q h)];exact q
theorem cP.seed {H:Hp}{d l:Addr}{sd n:Int}{ls:List Int}(D:cP H d l sd n ls) {v:Int}(h0:0<=v) (h1:v < 2147483647):cP (aW H d (.dK (eK v n l))) d l v n ls :=
 ⟨aE,by rw [aQ D.ne.symm];exact D.lc,h0,h1,D.n0,D.l0⟩
theorem cP.number {H:Hp}{d l:Addr}{sd n:Int}{ls:List Int}(D:cP H d l sd n ls) {v:Int}(h0:0<=v):cP (aW H d (.dK (eK sd v l))) d l sd v ls :=
 ⟨aE,by rw [aQ D.ne.symm];exact D.lc,D.s0,D.s1,h0,D.l0⟩
theorem cP.left {H:Hp}{d l:Addr}{sd n:Int}{ls ls':List Int}(D:cP H d l sd n ls) (h:∀ x∈ls',0<=x):cP (aW H l (.lst (ls'.map V.int))) d l sd n ls' :=
 ⟨by rw [aQ D.ne];exact D.dc,aE,D.s0,D.s1,D.n0,h⟩
theorem cP.out {H H':Hp}{d l:Addr}{sd n:Int}{ls:List Int}(D:cP H d l sd n ls) (s:aZ H H'):cP H' d l sd n ls:=⟨s _ _ D.dc,s _ _ D.lc,D.s0,D.s1,D.n0,D.l0⟩
theorem eB.same {H H':Hp}{d l:Addr}(D:eB H d l) (s:aZ H H'):eB H' d l:=let ⟨sd,n,ls,q⟩:=D;⟨sd,n,ls,q.out s⟩
theorem cP.gs {H:Hp}{d l:Addr}{sd n:Int}{ls:List Int}(D:cP H d l sd n ls):eE H d (.str "seed") (some (.int sd)):=by rw [<- aH3 sd n l];exact eE.k (k:=Sum.inr "seed") D.dc
theorem cP.gn {H:Hp}{d l:Addr}{sd n:Int}{ls:List Int}(D:cP H d l sd n ls):eE H d (.str "number") (some (.int n)):=by rw [<- wL sd n l];exact eE.k (k:=Sum.inr "number") D.dc
theorem cP.gl {H:Hp}{d l:Addr}{sd n:Int}{ls:List Int}(D:cP H d l sd n ls):eE H d (.str "left") (some (.ref l)):=by rw [<- aM3 sd n l];exact eE.k (k:=Sum.inr "left") D.dc
theorem cP.ps {H:Hp}{d l:Addr}{sd n:Int}{ls:List Int}(D:cP H d l sd n ls) (v:Int):jI H d (.str "seed") (.int v) (aW H d (.dK (eK v n l))):=by
 rw [<- aZ6 sd n v l];exact jI.k (k:=Sum.inr "seed") D.dc (bD (by show 3<=1000;decide))
theorem cP.pn {H:Hp}{d l:Addr}{sd n:Int}{ls:List Int}(D:cP H d l sd n ls) (v:Int):jI H d (.str "number") (.int v) (aW H d (.dK (eK sd v l))):=by
 rw [<- yN sd n v l];exact jI.k (k:=Sum.inr "number") D.dc (bD (by show 3<=1000;decide))
def spDraw:Sp:=fun vs H Q _=>∃ (d l:Addr) (m:Int),vs=[.ref d,.int m]/\eB H d l/\0 < m/\m < 2 ^ 64 /\
 ∀ (r:Int) (H':Hp),0<=r->r < m->eB H' d l->eM d l H H'->Q (.int r) H'
def aT2 (K:PySem.W.Frag):Sp:=fun vs H Q _=>∃ (a:Addr) (ns:List Int) (b:Int),vs=[.ref a,.int b]/\bN K H a (ns.map V.int)/\ns.length<=63/\0<=b/\b<=1000 /\
 ∀ (d l:Addr) (H':Hp),H d=none->H l=none->eB H' d l->aZ H H'->Q (.ref d) H'
theorem nV {ns:List Int}{i:Nat}{y:V}(h:(ns.map V.int)[i]?=some y):∃ z,y=V.int z/\ns[i]?=some z:=by
 rw [List.getElem?_map] at h
 cases e:ns[i]? with
 | none=>rw [e] at h;cases h
 | some z=>rw [e] at h;exact ⟨z,(Option.some.inj h).symm,rfl⟩
mutual
def xV (K:PySem.W.Frag) (H:Hp):PyData->V->Prop
 | .none,v=>v= .non
 | .bool b,v=>v= .bl b
 | .int i,v=>v= .int i
 | .str x,v=>v= .str x
 | .tuple ds,v=>∃ a vs,v= .ref a/\aX K H a vs/\vK K H ds vs
 | .list ds,v=>∃ a vs,v= .ref a/\bN K H a vs/\vK K H ds vs
 | .dict _,_=>False
def vK (K:PySem.W.Frag) (H:Hp):List PyData->List V->Prop
 | [],vs=>vs=[]
 | d :: ds,vs=>∃ v r,vs=v :: r/\xV K H d v/\vK K H ds r
end
section
variable {X:Cx}{pins:List (Addr×Obj)}{σ: St}{H:Hp}{s:Shared}
mutual
theorem xV.reads (I:bG X pins σ H s):∀ (d:PyData) (v:V) (u:Value),xV X.K H d v->bX v u->∃ as,Reads s.heap u d as
 | .none,v,u,h,r=>by
  have h:v= .non:=h
  subst h;cases r;exact ⟨_,.none⟩
 | .bool b,v,u,h,r=>by
  have h:v= .bl b:=h
  subst h;cases r;exact ⟨_,.bool b⟩
 | .int i,v,u,h,r=>by
  have h:v= .int i:=h
  subst h;obtain ⟨t,rfl⟩:=r;exact ⟨_,.int i t⟩
 | .str x,v,u,h,r=>by
  have h:v= .str x:=h
  subst h;obtain ⟨t,rfl⟩:=r;exact ⟨_,.str x t⟩
 | .tuple ds,v,u,h,r=>by
  obtain ⟨a,vs,rfl,hs,hl⟩:=h
  cases r
  obtain ⟨its,rv,⟨o,ho,hc,n,hd⟩,_⟩:=I.tuple hs
  obtain ⟨as,ra⟩:=vK.reads I ds vs its hl rv
  exact ⟨_,.tuple ho hc hd (by simpa using ra)⟩
 | .list ds,v,u,h,r=>by
  obtain ⟨a,vs,rfl,hs,hl⟩:=h
  cases r
  obtain ⟨its,rv,pl,_⟩:=I.list hs
  obtain ⟨o,ho,hc,n,hd⟩:=pl.isList
  obtain ⟨as,ra⟩:=vK.reads I ds vs its hl rv
  exact ⟨_,.list ho hc hd (by simpa using ra)⟩
 | .dict _,v,u,h,r=>h.elim
theorem vK.reads (I:bG X pins σ H s):∀ (ds:List PyData) (vs:List V) (us:List Value),vK X.K H ds vs->bP vs us->∃ as,ReadsAll s.heap us ds as
 | [],vs,us,h,r=>by
  have h:vs=[]:=h
  subst h;cases r;exact ⟨_,.nil⟩
 | d :: ds,vs,us,h,r=>by
  obtain ⟨v,t,rfl,hd,ht⟩:=h
  cases r with
  | cons r1 r2 =>
   obtain ⟨as,ra⟩:=xV.reads I d v _ hd r1
   obtain ⟨bs,rb⟩:=vK.reads I ds t _ ht r2
   exact ⟨_,.cons ra rb⟩
end
end
section
variable {X:Cx}
theorem jV:iK X (.builtin "isinstance") (fun xs H Q=>∃ x n t b,xs=[x,.ty n]/\mU X.K H x t/\PySem.W.kitOne X.K t (.type n)=some b/\Q (.bl b) H):=by
 intro pins s σ H xs us Q I r h
 obtain ⟨x,n,t,b,rfl,ty,e,q⟩:=h
 obtain ⟨u,w',rfl,ru,rw'⟩:=aF4 r
 cases rw'
 exact aF9 I ru ty e fun tk=>⟨.bl b,H,I.tok tk,rfl,q⟩
end
section
variable {X:Cx}(K:PySem.W.Frag)
theorem cG3 (hK:X.K=K:=by rfl):IxR X (cA7 K):=by subst hK;exact bZ
theorem qY (hK:X.K=K:=by rfl):IxR X (yS K):=by subst hK;exact aI
theorem inK (hK:X.K=K:=by rfl):lB X (compareOp .In) (rIn K false):=by subst hK;exact cH
theorem cG1 (hK:X.K=K:=by rfl):lB X (compareOp .NotIn) (rIn K true):=by subst hK;exact gP
end
theorem bO {c A B:Prop} [Decidable c] (hc:c) (h:A):if c then A else B:=by rw [if_pos hc];exact h
theorem bC {c A B:Prop} [Decidable c] (hc:¬ c) (h:B):if c then A else B:=by rw [if_neg hc];exact h
theorem jG {α: Type}(v:α) (r:List α):jA (v :: r) 0=some v:=by
 have h:(0:Int) < ((v :: r).length:Int):=by simp
 unfold jA ixN
 rw [if_pos (by decide),if_pos h]
 rfl
section
variable {X:Cx}
theorem cG4 {es:List Expr}{k:Nat}{t:TGs}{n:Nat}{pos:Pos}(K:PySem.W.Frag) (hc:X.calm=true) (h:PGs X es t) (hK:X.K=K:=by rfl)
  (hn:(assignEach es X.env).length=n:=by rfl) (hst:(assignEach es X.env).findIdx? (·.1)=none:=by rfl):PG X (.Tuple es k pos) (bZ3 K n t):=by subst hK;exact fE hc h hn hst
end
def wP (i:Int):Prop:= -(2 ^ 250) < i/\i < 2 ^ 250
def bZ9 (i j:Int):Prop:=wP i/\wP j
theorem wP.bits {i:Int}(h:wP i):Builtin.Int.intBits i<=2 ^ 20:=by
 have h1:i.natAbs < 2 ^ 250:=by
  have:=h.1;have:=h.2;omega
 exact Nat.le_trans (PyProof.Rows.intBits_le h1) (by decide)
theorem kP {X:Cx}:lB X (binaryOp .Mult) (rI bZ9 fun i j=> .int (i * j)):=opI fun _ _ _ _ _ _ _ hc q=>mul_int q (IntMulOk.of_bits hc.1.bits hc.2.bits)
section
variable {X:Cx}
def bX5 (K:PySem.W.Frag):List V->Hp->VK->Prop:=fun xs H Q=>∃ (d:PyData) (p:Addr),xs=[.ref p]/\xV K H d (.ref p)/\d.showable=true/\d.hasDict=false/\d.depth<=64/\d.shown.length<=sizeLine/\Q (.str d.shown) H
theorem pQ {k:Nat}(hr:eF k X.A):iK X (.builtin "repr") (bX5 X.K):=by
 intro pins s σ H xs us Q I r h
 obtain ⟨d,p,rfl,hd,hs,hh,hdp,hz,q⟩:=h
 obtain ⟨u,rfl,ru⟩:=kT r
 cases ru
 obtain ⟨as,ra⟩:=xV.reads I d (.ref p) (.ref p) hd rfl
 refine repr_of_reads' ra hs (fun z=>by rw [hh] at z;cases z) hr.gd (by have:=hr.un;omega) (fun b o e=>e) (fun h' u tk hk=>⟨.str _,H,I.kept hk,⟨_,rfl⟩,q⟩) hz
end
def jU (a b:Int):PyData:= .tuple [.int a,.int b]
section
variable {X:Cx}{pins:List (Addr×Obj)}{σ: St}{H:Hp}{s:Shared}{h':Heap}
end
section
variable {prog:Program}{w:World}{A:Around}{E:Value->Shared->Prop}{s:Shared}
end
section
variable {prog:Program}{w:World}{A:Around}{E:Value->Shared->Prop}{s:Shared}
end
section
variable {g:TG}{tc:TT}{te:TE}
end
section
variable {X:Cx}{tg:Expr}
def rSlS:V->Option Int->Option Int->Hp->VK->Prop:=fun x lo hi H Q=>∃ z,x= .str z/\z.length<=sizeLine/\Q (.str (Txt.slice z lo hi)) H
theorem bT1:SlR X rSlS:=by
 intro pins s σ H x v vl vu lo hi sl Q I rx hs pl pu h
 obtain ⟨z,rfl,hz,q⟩:=h
 obtain ⟨t,rfl⟩:=rx
 refine ⟨"str",_,F.slot_str_getitem.lookup,typeIs_str _ _ _,?_⟩
 have fin:∀ {lo hi:Option Int},Q (.str (Txt.slice z lo hi)) H->∀ t' k,EP X pins σ Q (.str (Txt.slice z lo hi) t') { s with toks:=k }:=fun q t' k=>⟨.str _,H,I.tok k,⟨_,rfl⟩,q⟩
 cases pl with
 | none =>
  cases pu with
  | none=>exact wpAny_getItem_str_slice (l:=none) (u:=none) (st:=none) hs rfl (post_val_or_str ⟨Nat.le_trans (Txt.slice_le z _ _) hz,fin q⟩)
  | int j u=>exact wpAny_getItem_str_slice (l:=none) (u:=some (j,u)) (st:=none) hs rfl (post_val_or_str ⟨Nat.le_trans (Txt.slice_le z _ _) hz,fin q⟩)
 | int i u' =>
  cases pu with
  | none=>exact wpAny_getItem_str_slice (l:=some (i,u')) (u:=none) (st:=none) hs rfl (post_val_or_str ⟨Nat.le_trans (Txt.slice_le z _ _) hz,fin q⟩)
  | int j u=>exact wpAny_getItem_str_slice (l:=some (i,u')) (u:=some (j,u)) (st:=none) hs rfl (post_val_or_str ⟨Nat.le_trans (Txt.slice_le z _ _) hz,fin q⟩)
theorem oP:∀ {ys:List Str}{us:List Value},bP (ys.map V.str) us->StrsAre us ys
 | [],_,r=>by
  cases r
  exact .nil
 | y :: ys,_,r=>by
  cases r with
  | cons r1 r2 =>
   obtain ⟨t,rfl⟩:=r1
   exact .cons y t (oP r2)
def cA8 (K:PySem.W.Frag):V->List V->Hp->VK->Prop:=fun x vs H Q=>∃ (sep:Str) (p:Addr) (ys:List Str),x= .str sep/\vs=[.ref p]/\bN K H p (ys.map V.str)/\(ys.map (·.length)).sum+ys.length * sep.length<=16777216/\Q (.str (Txt.join sep ys)) H
theorem bD5:MtR X "str.join" (cA8 X.K):=by
 intro pins s σ H x xs v us Q I rx rs h
 obtain ⟨sep,p,ys,rfl,rfl,hq,hz,q⟩:=h
 obtain ⟨t,rfl⟩:=rx
 obtain ⟨u,rfl,ru⟩:=rs.one
 cases ru
 obtain ⟨its,rv,pl,_⟩:=I.list hq
 exact join_list pl.isList (by simpa using oP rv) hz fun t' k=>⟨.str _,H,I.tok k,⟨_,rfl⟩,q⟩
end
section
variable {X:Cx}
end
theorem aP9 {κ: Type}:∀ {kvs:List (κ×V)}{vs:List (κ×Value)}{i:Nat}{k:κ}{v:V},KV kvs vs->kvs[i]?=some (k,v)->∃ u,vs[i]?=some (k,u)/\bX v u
 | _,_,_,_,_,.nil,e=>by simp at e
 | _,_,0,_,_,.cons r _,e=>by
  simp at e
  subst e
  obtain ⟨r1,r2⟩:=r
  exact ⟨_,by simp;exact Prod.ext r1.symm rfl,r2⟩
 | _,_,i+1,_,_,.cons _ r,e=>by
  obtain ⟨u,e1,e2⟩:=aP9 (i:=i) r (by simpa using e)
  exact ⟨u,by simpa using e1,e2⟩
theorem bH6 {k:Key}{u:Value}(h:kW k u=true):bX (kV k) u:=by
 rcases cO h with ⟨i,t,rfl,rfl⟩ | ⟨x,t,rfl,rfl⟩
 ·exact ⟨t,rfl⟩
 ·exact ⟨t,rfl⟩
section
variable {X:Cx}
variable {g:TG}{tc:TT}{te:TE}
end
open AutoSeq1 (wpAny_loadPart')
section
variable {prog:Program}{w:World}{A:Around}{E:Value->Shared->Prop}{s:Shared}
end
open PySem PySem.Spec PyProof.Rows
section
variable {prog:Program}{w:World}{A:Around}{E:Value->Shared->Prop}{s:Shared}
end
section
variable {X:Cx}{pins:List (Addr×Obj)}{σ: St}{H:Hp}{s:Shared}{a:Addr}{y v:V}{u r:Value}{A:Around}{E:Value->Shared->Prop}
end
section
variable {X:Cx}{pins:List (Addr×Obj)}{σ: St}{H:Hp}{s:Shared}{A:Around}{E:Value->Shared->Prop}
end
open PySem PySem.Spec PyProof.Rows PySem.W
section
variable {n:Nat}(h0:0 < n)
include h0
end
open PySem PySem.Spec PyProof.Rows PySem.W HT
section
variable {prog:Program}{w:World}{A:Around}{E:Value->Shared->Prop}{s:Shared}
end
open PySem PySem.Spec PyProof.Rows
section
variable {prog:Program}{w:World}{A:Around}{E:Value->Shared->Prop}{s:Shared}
theorem aW6 {J t:Addr}{i:Nat}{its:Array Value}{v:Value}{Q:Value->Shared->Prop}(a1:s.heap.IsListIter J t i) (a2:s.heap.IsList t its) (a3:its[i]?=some v)
  (k:∀ g,g.IsListIter J t (i+1)->Heap.SameBut J s.heap g->Q v { s with heap:=g }):wpAny (model prog w) A (Builtin.SmallTypes.nextOf (.ref J)) Q E s:=by
 obtain ⟨oJ,e1,e2,e3⟩:=id a1
 obtain ⟨oT,e4,_,m,e5⟩:=a2
 unfold Builtin.SmallTypes.nextOf
 refine wpAny_bind (wpAny_callSpecial?_slot (name:=Str.ofString "__next__") a1.typeIs slot_listiter_next (wpAny_call_entry slot_listiter_next a1.typeIs entry_listiter_next ?_ (args_listiter_next _)))
 show wpAny _ _ (field (.ref J) 0 >>= _) _ _ s
 refine wpAny_bind (wpAny_field e1 e3 (x:= .ref t) rfl ?_)
 refine (show wpAny _ _ (if (Value.ref t == Value.none)=true then _ else _) _ _ s from ?_)
 rw [if_neg (show ¬ ((Value.ref t == Value.none)=true) by exact Bool.false_ne_true)]
 show wpAny _ _ (field (.ref J) 1 >>= _) _ _ s
 refine wpAny_bind (wpAny_field e1 e3 (x:= .int i 0) rfl ?_)
 refine (show wpAny _ _ (seqItems? (.ref t) >>= _) _ _ s from wpAny_bind (wpAny_seqItems e4 e5 ?_))
 simp only [Int.toNat_natCast,a3]
 refine wpAny_bind (wpAny_setField e1 e3 (by simp) (wpAny_pure ⟨v,rfl,wpAny_pure (k _ ?_ (Heap.SameBut.update ..))⟩))
 exact ⟨_,Heap.get?_update_self _ e1 (Obj.isFreed_of_fields (Obj.data_mapFields e3 _)),(Obj.cls_mapFields ..).trans e2,by rw [Obj.data_mapFields e3];simp [rawInt]⟩
theorem xU {J t:Addr}{i:Nat}{its:Array Value}{Q:Value->Shared->Prop}(hh:A.handled=none) (a1:s.heap.IsListIter J t i) (a2:s.heap.IsList t its) (a3:its[i]?=none)
  (k:∀ g e,Heap.ExtBut J s.heap g->(∃ o,g.get? e=some o/\o.cls= .type "StopIteration")->E (.ref e) { s with heap:=g }):wpAny (model prog w) A (Builtin.SmallTypes.nextOf (.ref J)) Q E s:=by
 obtain ⟨oJ,e1,e2,e3⟩:=id a1
 obtain ⟨oT,e4,_,m,e5⟩:=a2
 unfold Builtin.SmallTypes.nextOf
 refine wpAny_bind (wpAny_callSpecial?_slot (name:=Str.ofString "__next__") a1.typeIs slot_listiter_next (wpAny_call_entry slot_listiter_next a1.typeIs entry_listiter_next ?_ (args_listiter_next _)))
 show wpAny _ _ (field (.ref J) 0 >>= _) _ _ s
 refine wpAny_bind (wpAny_field e1 e3 (x:= .ref t) rfl ?_)
 refine (show wpAny _ _ (if (Value.ref t == Value.none)=true then _ else _) _ _ s from ?_)
 rw [if_neg (show ¬ ((Value.ref t == Value.none)=true) by exact Bool.false_ne_true)]
 show wpAny _ _ (field (.ref J) 1 >>= _) _ _ s
 refine wpAny_bind (wpAny_field e1 e3 (x:= .int i 0) rfl ?_)
 refine (show wpAny _ _ (seqItems? (.ref t) >>= _) _ _ s from wpAny_bind (wpAny_seqItems e4 e5 ?_))
 simp only [Int.toNat_natCast,a3]
 refine wpAny_bind (wpAny_rule (wpAny_bind (wpAny_setField e1 e3 (by simp) ?_)))
 refine (show wpAny _ _ (newExc (.type "StopIteration") [] >>= _) _ _ _ from wpAny_bind ?_)
 simp only [newExc,newTuple]
 refine wpAny_bind (wpAny_newObj_type ?_ (by size_fits))
 refine wpAny_bind (m:=firstArgMember _ _) (wpAny_of_eq (a:=Value.none) (by first | exact rfl | (simp only [firstArgMember];rfl)) ?_)
 refine wpAny_newObj_type ?_ (by size_fits)
 simp only [raiseNew]
 refine wpAny_bind (wpAny_handled ?_)
 first | rw [hh] | rw [show A.in1.handled=none from hh]
 refine wpAny_bind (wpAny_pure (wpAny_throw ?_))
 exact k _ _ (((Heap.SameBut.update ..).extBut.push _).push _) ⟨_,Heap.get?_push_size _ rfl,rfl⟩
structure cG7 (g:Heap) (n l1 l2:Addr) (i:Nat):Prop where
 z:IsZip g (n+4) (n+2) (n+3) .none
 I:IsPair g (n+2) (.ref n) (.ref (n+1))
 O:∃ a b,IsPair g (n+3) a b
 i1:g.IsListIter n l1 i
 i2:g.IsListIter (n+1) l2 i
end
abbrev yA (g:Heap) (l1:Addr):Heap:=g.push { cls:= .type "list_iterator",data:= .fields #[.ref l1,.int 0 0] }
abbrev yB (g:Heap) (l1 l2:Addr):Heap:=(yA g l1).push { cls:= .type "list_iterator",data:= .fields #[.ref l2,.int 0 0] }
abbrev yC (g:Heap) (l1 l2:Addr):Heap:=(yB g l1 l2).push { cls:= .type "tuple",data:= .seq #[.ref g.objs.size,.ref (yA g l1).objs.size] }
abbrev yD (g:Heap) (l1 l2:Addr):Heap:=(yC g l1 l2).push { cls:= .type "tuple",data:= .seq #[.none,.none] }
abbrev yE (g:Heap) (l1 l2:Addr):Heap:=(yD g l1 l2).push { cls:= .type "zip",data:= .fields #[.none,.bool false,.bool false,.ref (yB g l1 l2).objs.size,.ref (yC g l1 l2).objs.size] }
theorem aY3 (l1 l2:Addr) (xs ys:Array Value):Meets (Builtin.«zip.__new__» ⟨[.type "zip",.ref l1,.ref l2],[]⟩) (fun _ R s=>s.heap.IsList l1 xs/\s.heap.IsList l2 ys /\
   R (.ok (.ret (.ref (yD s.heap l1 l2).objs.size))) { s with heap:=yE s.heap l1 l2 }) :=
 .of_wp fun prog w A R s h=>by
  obtain ⟨q,g,d,tk,os⟩:=s;obtain ⟨t1,t2,h⟩:=h
  have hS:=PySem.sub_zip
  have T1:Heap.IsList (Shared.heap ⟨q,g,d,tk,os⟩) l1 xs:=t1
  have T2:Heap.IsList (Shared.heap ⟨q.push { cls:= .type "list_iterator",data:= .fields #[.ref l1,.int 0 0] },g,d,tk,os⟩) l2 ys:=t2.at fun o e=>Heap.get?_push_of_some _ e
  wp_walk using wpAny_pyIter_list T1,wpAny_pyIter_list T2
  exact ⟨_,rfl,h⟩
section
variable {prog:Program}{w:World}{A:Around}{E:Value->Shared->Prop}{s:Shared}
theorem aG5 {l1 l2:Addr}{xs ys:Array Value}{Q:Value->Shared->Prop}(t1:s.heap.IsList l1 xs) (t2:s.heap.IsList l2 ys)
  (k:∀ g,cG7 g s.heap.objs.size l1 l2 0->(∀ c o,s.heap.get? c=some o->g.get? c=some o)->Q (.ref (s.heap.objs.size+4)) { s with heap:=g }) :
  wpAny (model prog w) A (call (.type "zip") [.ref l1,.ref l2]) Q E s:=by
 refine callType_new F.called_zip (by decide) (F.typeCall_zip_2 _ _) (F.newCall_zip_2 _ _) (fun obj=>F.args_object_init_3 obj _ _) F.entry_zip_new (aY3 l1 l2 xs ys) ⟨t1,t2,?_⟩
 have n1:(yA s.heap l1).objs.size=s.heap.objs.size+1:=by rw [Heap.size_push]
 have n2:(yB s.heap l1 l2).objs.size=s.heap.objs.size+2:=by rw [Heap.size_push,n1]
 have n3:(yC s.heap l1 l2).objs.size=s.heap.objs.size+3:=by rw [Heap.size_push,n2]
 have n4:(yD s.heap l1 l2).objs.size=s.heap.objs.size+4:=by rw [Heap.size_push,n3]
 have b5:(yE s.heap l1 l2).get? (yD s.heap l1 l2).objs.size=some _:=Heap.get?_push_size _ rfl
 have b4:(yE s.heap l1 l2).get? (yC s.heap l1 l2).objs.size=some _:=Heap.get?_push_of_some _ (Heap.get?_push_size _ rfl)
 have b3:(yE s.heap l1 l2).get? (yB s.heap l1 l2).objs.size=some _:=Heap.get?_push_of_some _ (Heap.get?_push_of_some _ (Heap.get?_push_size _ rfl))
 have b2:(yE s.heap l1 l2).get? (yA s.heap l1).objs.size=some _:=Heap.get?_push_of_some _ (Heap.get?_push_of_some _ (Heap.get?_push_of_some _ (Heap.get?_push_size _ rfl)))
 have b1:(yE s.heap l1 l2).get? s.heap.objs.size=some _:=Heap.get?_push_of_some _ (Heap.get?_push_of_some _ (Heap.get?_push_of_some _ (Heap.get?_push_of_some _ (Heap.get?_push_size _ rfl))))
 show _/\_
 rw [n2,n3,n4] at b5
 rw [n1,n2] at b3
 rw [n3] at b4
 rw [n1] at b2
 rw [n4]
 exact ⟨⟨_,b5,rfl⟩,k _ ⟨b5,b3,⟨_,_,b4⟩,⟨_,b1,rfl,rfl⟩,⟨_,b2,rfl,rfl⟩⟩ fun c o q=>Heap.get?_push_of_some _ (Heap.get?_push_of_some _ (Heap.get?_push_of_some _ (Heap.get?_push_of_some _ (Heap.get?_push_of_some _ q))))⟩
end
section
variable {g:TG}{tc:TT}{te:TE}
end
theorem vS (val:Nat->Int):∀ k i,i<=k->val i<=val (argBest (fun i j=>decide (val i > val j)) k)
 | 0,i,h=>by
  have:i=0:=by omega
  subst this
  exact Int.le_refl _
 | k+1,i,h=>by
  have ih:=vS val k
  rw [argBest]
  split
  ·rename_i c
   have c:=of_decide_eq_true c
   by_cases e:i=k+1
   ·rw [e];exact Int.le_refl _
   ·have:=ih i (by omega)
    omega
  ·rename_i c
   have c:¬ val (k+1) > val _:=fun z=>c (decide_eq_true z)
   by_cases e:i=k+1
   ·rw [e];exact Int.not_lt.mp c
   ·exact ih i (by omega)
section
variable {X:Cx}
def bK8 (K:PySem.W.Frag):R2:=fun x y H Q=>∃ a b xs ys,x= .ref a/\y= .ref b/\aX K H a xs/\aX K H b ys/\ys≠[]/\xs.length+ys.length<=sizeLine /\
 (xs=[]->Q (.ref b) H)/\(xs≠[]->∀ p,H p=none->Q (.ref p) (aW H p (.tup (xs++ys))))
theorem zS:lB X (binaryOp .Add) (bK8 X.K):=by
 intro pins s σ H x y v u Q I rx ry h
 by_cases c:∃ a xs,x= .ref a/\aX X.K H a xs/\xs≠[]
 ·obtain ⟨a',xs',e,ha',hx⟩:=c
  obtain ⟨a,b,xs,ys,rfl,rfl,ha,hb,hy,hz,q1,q2⟩:=h
  have e:=V.ref.inj e
  rw [<- e] at ha'
  have:=I.tuple_inj ha ha'
  subst this
  exact aA0 pins s σ H _ _ v u Q I rx ry ⟨_,b,xs,ys,rfl,rfl,ha,hb,hx,hz,fun z=>absurd z hy,fun _=>q2 hx⟩
 ·obtain ⟨a,b,xs,ys,rfl,rfl,ha,hb,hy,hz,q1,q2⟩:=h
  have hx:xs=[]:=Decidable.byContradiction fun z=>c ⟨a,xs,rfl,ha,z⟩
  subst hx
  cases rx
  cases ry
  obtain ⟨its,r1,p1,_⟩:=I.tuple ha
  obtain ⟨its2,r2,p2,_⟩:=I.tuple hb
  cases r1
  obtain ⟨⟨cls,dd,data,sl⟩,ho,hc,n,hd⟩:=id p1
  obtain ⟨⟨cls2,dd2,data2,sl2⟩,ho2,hc2,n2,hd2⟩:=id p2
  simp only at hc hd hc2 hd2
  subst hc hd hc2 hd2
  exact concat_meets ⟨_,ho,rfl⟩ ⟨_,ho2,rfl⟩ noFill_tuple_add seq_tuple_add PySem.F.slot_tuple_add PySem.F.entry_tuple_add (PySem.F.args_tuple_add_2 _ _)
   (tuple_addW0 a b _ its2.toArray n n2 dd dd2 sl sl2 (by simp)) ⟨ho,ho2,.ref b,H,I,rfl,q1 rfl⟩
end
def ItR (K:PySem.W.Frag) (a:Addr) (n:Nat):It :=
 ⟨fun i H=>∃ xs,bN K H a xs/\xs.length=n/\i < n,fun i H x H'=>H'=H/\∀ ys,bN K H a ys->ys.reverse[i]?=some x,fun i H=>∃ xs,bN K H a xs/\xs.length=n/\n<=i⟩
theorem aY5 {P:Program}{w:World}{K:PySem.W.Frag}{tg:Expr}(a it:Addr) (n:Nat) (ne:a≠it):aP3 P w K tg (ItR K a n) [it] it (fun i h=>i<=n/\h.IsRevIter it a ((n:Int) - 1 - (i:Int))) where
 mem:=by simp
 obj:=fun i h st b hb=>by
  have e:b=it:=by simpa using hb
  subst e
  obtain ⟨_,o,e,c,d⟩:=st
  exact ⟨o,e,fun v z=>by rw [d] at z;cases z⟩
 keep:=fun i h h' st k=>⟨st.1,let ⟨o,e,r⟩:=st.2;⟨o,k it (by simp) o e,r⟩⟩
 item:=by
  intro X hP hw hK hc i pins s σ H E I hf st hg
  subst hP hw hK
  obtain ⟨xs,hq,hn,hi⟩:=hg
  obtain ⟨its,rv,p,hz⟩:=I.list hq
  have hl:=rv.length
  have sz:its.toArray.size=n:=by rw [List.size_toArray];omega
  obtain ⟨f0,f1,f2,f3,f4,f5⟩:=hf it (by simp)
  have Wk:=Walks.listRev (prog:=X.prog) (w:=X.w) (A:=X.A) (I.ok.hd hc) it a ne its.toArray
  refine Wk.item i s _ _ (by omega) ⟨by omega,by rw [sz];exact st.2,p.isList⟩ fun v h' tk pv st' kp=>?_
  have I1:bG X pins σ H { s with heap:=h',toks:=tk }:=I.turned (t':=tk) (fun b o hb e=>kp b o (by simpa using hb) e) f0 f1 f3 f4 f5
  have hx:i < xs.reverse.length:=by rw [List.length_reverse];omega
  obtain ⟨u,hu,ru⟩:=rv.get (show xs[xs.length - 1 - i]?=some (xs[xs.length - 1 - i]'(by omega)) from List.getElem?_eq_getElem (by omega))
  obtain ⟨o,e,c,d⟩:=id st'.2.1
  have ev:v=u:=by
   have:its.toArray[its.toArray.size - 1 - i]?=some v:=pv
   rw [sz, <- hn] at this
   have t2:its[xs.length - 1 - i]?=some v:=by simpa using this
   rw [hu] at t2
   exact (Option.some.inj t2).symm
  subst ev
  refine ⟨_,rfl,go_of (s:={ s with heap:=h',toks:=tk }) e c d (by decide) ⟨xs[xs.length - 1 - i]'(by omega),H,I1,ru,⟨rfl,fun ys hy=>?_⟩,⟨by omega,by have:=st'.2.1;rw [sz] at this;exact this⟩,fun b hb=>(hf b hb).1⟩⟩
  rw [I.list_inj hy hq,List.getElem?_reverse (by omega)]
  exact List.getElem?_eq_getElem (by omega)
 done:=by
  intro X hP hw hK hc i pins s σ H E I hf st hg
  subst hP hw hK
  obtain ⟨xs,hq,hn,hi⟩:=hg
  obtain ⟨its,rv,p,hz⟩:=I.list hq
  have hl:=rv.length
  have sz:its.toArray.size=n:=by rw [List.size_toArray];omega
  obtain ⟨f0,f1,f2,f3,f4,f5⟩:=hf it (by simp)
  have Wk:=Walks.listRev (prog:=X.prog) (w:=X.w) (A:=X.A) (I.ok.hd hc) it a ne its.toArray
  have ei:i=n:=by have:=st.1;omega
  refine Wk.done s _ _ ⟨Nat.le_refl _,by rw [sz, <- ei];have:=st.2;rw [<- ei] at this;exact this,p.isList⟩ fun h' tk kp=>⟨rfl,I.turned (t':=tk) (fun b o hb e=>kp b o (by simpa using hb) e) f0 f1 f3 f4 f5⟩
 self:=fun _ _ _ _ _ st h=>wpAny_pyIter_revIter st.2 h
def cH6 (K:PySem.W.Frag) (te:TE):TI:=fun σ H R=>te σ H fun x H1=>∃ a ys,x= .ref a/\bN K H1 a ys/\R (ItR K a ys.length) H1
theorem aY1 {X:Cx}{tg:Expr}{e:Expr}{te:TE}{p2 pos2:Pos}(he:PE X e te) (g2:Gl X "reversed") (m2:X.mg "reversed"=none) (hs2:starEach [e] X.env=[(false,eval e X.env)]:=by rfl) :
  PI X tg (.Call (.Name "reversed" p2) [e] [] pos2) (cH6 X.K te):=by
 intro pins s σ H R I h
 refine wpAny_Call_Name_kw (jL I g2 m2 PyProof.Rows.boot_reversed (PyProof.Rows.callWith_type1 ?_ hs2 rfl))
 rw [hs2]
 refine Calls.spliced_cons (dQ (he pins s σ H _ I h) fun u s1 ⟨x,H1,I1,r1,a,ys,ex,hq,q⟩=>Calls.spliced_nil ?_)
 subst ex
 cases r1
 obtain ⟨its,rv,pl,hz⟩:=I1.list hq
 have il:=pl.isList
 have len:=rv.length
 have sz:its.toArray.size=ys.length:=by rw [List.size_toArray];omega
 have aLt:a < s1.heap.objs.size:=by
  obtain ⟨o,e,_⟩:=il
  exact Heap.lt_size e
 refine call_reversed_list il ?_
 have st:(s1.heap.push (revObj a ((its.toArray.size:Int) - 1))).IsRevIter s1.heap.objs.size a ((ys.length:Int) - 1 - ((0:Nat):Int)):=by
  rw [sz,Int.natCast_zero,Int.sub_zero]
  exact ⟨_,Heap.get?_push_size _ rfl,rfl,rfl⟩
 refine wpAny_pyIter_revIter st ?_
 refine ⟨s1.heap.objs.size,[s1.heap.objs.size],_,ItR X.K a ys.length,H1,rfl,I1.kept (t':=s1.toks) fun b o e=>Heap.get?_push_of_some _ e,aY5 a _ ys.length (Nat.ne_of_lt aLt),⟨Nat.zero_le _,st⟩,fun b hb=>?_,q⟩
 have e:b=s1.heap.objs.size:=by simpa using hb
 subst e
 exact I1.fpOk (Nat.le_refl _) (I1.hok.fresh (Nat.le_refl _))
theorem vJ {g:TG}{tc:TT}{te:TE}{K:PySem.W.Frag}{a:Addr}{xs:List V}{Kf:List V->Hp->Prop}{σ0:St}{H1:Hp}(Pv:Nat->List V->St->Hp->Prop) (hz:xs.length < sizeLine) (h0:Pv 0 [] σ0 H1) (hb:∀ i ys σ H,Pv i ys σ H->ys.length<=i) (hl:∀ i ys σ H,i<=xs.length->Pv i ys σ H->bN K H a xs)
  (hs:∀ i x ys σ H,xs.reverse[i]?=some x->Pv i ys σ H->g x σ H fun σ2 H2=>tc σ2 H2 fun b H3=>if b=true then te σ2 H3 fun y H4=>Pv (i+1) (ys++[y]) σ2 H4 else Pv (i+1) ys σ2 H3) (hd:∀ ys σ H,Pv xs.length ys σ H->Kf ys H):sO (ItR K a xs.length) g tc te Kf σ0 H1:=by
 refine ⟨fun i m ys σ H=>m=xs.length - i/\i<=xs.length/\Pv i ys σ H,⟨xs.length,rfl,Nat.zero_le _,h0⟩,?_⟩
 rintro i m ys σ H ⟨rfl,le,p⟩
 have q:=hl i ys σ H le p
 refine ⟨Nat.lt_of_le_of_lt (hb _ _ _ _ p) (Nat.lt_of_le_of_lt le hz),?_⟩
 by_cases c:i < xs.length
 ·exact .inr ⟨⟨xs,q,rfl,c⟩,Pv (i+1),fun ys' σ' H' p'=>⟨xs.length - (i+1),Nat.sub_lt_sub_left c (Nat.lt_succ_self i),rfl,c,p'⟩,fun x H' ⟨e,y⟩=>by
   subst e
   exact hs i x ys σ _ (y xs q) p⟩
 ·obtain rfl:i=xs.length:=by omega
  exact .inl ⟨⟨xs,q,rfl,Nat.le_refl _⟩,hd ys σ H p⟩
section
variable {X:Cx}
def rCatA:R2:=fun x y H Q=>∃ a b xs ys,x= .ref a/\y= .ref b/\H a=some (.tup xs)/\H b=some (.tup ys)/\xs.length+ys.length<=sizeLine/\∀ r H',aZ H H'->H' r=some (.tup (xs++ys))->Q (.ref r) H'
theorem uO:lB X (binaryOp .Add) rCatA:=by
 intro pins s σ H x y v u Q I rx ry h
 obtain ⟨a,b,xs,ys,rfl,rfl,ha,hb,hz,q⟩:=h
 by_cases hx:xs=[]
 ·subst hx
  cases rx
  cases ry
  obtain ⟨its,r1,p1,_⟩:=I.tuple (aX.of ha)
  obtain ⟨its2,r2,p2,_⟩:=I.tuple (aX.of hb)
  cases r1
  obtain ⟨⟨cls,dd,data,sl⟩,ho,hc,n,hd⟩:=id p1
  obtain ⟨⟨cls2,dd2,data2,sl2⟩,ho2,hc2,n2,hd2⟩:=id p2
  simp only at hc hd hc2 hd2
  subst hc hd hc2 hd2
  exact concat_meets ⟨_,ho,rfl⟩ ⟨_,ho2,rfl⟩ noFill_tuple_add seq_tuple_add PySem.F.slot_tuple_add PySem.F.entry_tuple_add (PySem.F.args_tuple_add_2 _ _)
   (tuple_addW0 a b _ its2.toArray n n2 dd dd2 sl sl2 (by simp)) ⟨ho,ho2,.ref b,H,I,rfl,q b H (aZ.refl _) hb⟩
 ·refine aA0 pins s σ H _ _ v u Q I rx ry ⟨a,b,xs,ys,rfl,rfl,aX.of ha,aX.of hb,hx,hz,fun e=>?_,fun _ p hp=>q p _ (aB hp _) aE⟩
  subst e
  exact q a H (aZ.refl _) (by rw [List.append_nil];exact ha)
end
section
variable {prog:Program}{w:World}{A:Around}{E:Value->Shared->Prop}{s:Shared}
end
section
variable {X:Cx}{pins:List (Addr×Obj)}{σ: St}{H:Hp}{s:Shared}{A:Around}{E:Value->Shared->Prop}
end
section
variable {prog:Program}{w:World}{K:Type} [DecidableEq K] {knd:KeyKind prog w K}{A:Around}{E:Value->Shared->Prop}{s:Shared}
end
section
variable {X:Cx}
end
section
variable {X:Cx}
def bY9 (t:TT):TT:=fun σ H Q=>∃ P:Bool->Hp->Prop,t σ H P/\∀ b G,P b G->Q b G
theorem iO {e:Expr}{t:TT}(h:PT X e t):PT X e (bY9 t):=by
 intro pins s σ H Q I ⟨P,h1,h2⟩
 exact dQ (h pins s σ H P I h1) fun b s' ⟨G,I',p⟩=>⟨G,I',h2 b G p⟩
def cA4 (t:TS):TS:=fun D σ H=>∃ P:St->Hp->Prop,t { D with nx:=P } σ H/\∀ σ' G,P σ' G->D.nx σ' G
theorem bI3 {st:Stmt}{t:TS}(h:PS X st t):PS X st (cA4 t):=by
 intro pins s σ H D I ⟨P,h1,h2⟩
 refine dQ (h pins s σ H _ I h1) fun f s' q=>?_
 cases f with
 | next =>
  obtain ⟨σ',G,I',p⟩:=q
  exact ⟨σ',G,I',h2 σ' G p⟩
 | ret v=>exact q
 | brk=>exact q
 | cont=>exact q
end
section
variable {X:Cx}{o e:Expr}{es:List Expr}{to:TE}{t:TA}{name:Str}{apos cpos:Pos}{T id:String}{r:V->List V->Hp->VK->Prop}
end
def bX7 (t:TE):TE:=fun σ H Q=>∃ P:V->Hp->Prop,t σ H P/\∀ v G,P v G->Q v G
theorem aB9 {X:Cx}{e:Expr}{t:TE}(h:PE X e t):PE X e (bX7 t):=by
 intro pins s σ H Q I ⟨P,h1,h2⟩
 exact dQ (h pins s σ H P I h1) fun v s' ⟨x,G,I',r,p⟩=>⟨x,G,I',r,h2 x G p⟩
def lO (σ: List Key) (k:Key):Bool:=σ.any fun j=>decide (j=k)
theorem iY {σ: List Key}{k:Key}:lO σ k=true↔k∈σ:=by
 unfold lO
 rw [List.any_eq_true]
 constructor
 ·rintro ⟨j,m,e⟩
  rw [<- of_decide_eq_true e];exact m
 ·exact fun m=>⟨k,m,decide_eq_true rfl⟩
def ddS (σ: List Key) (k:Key):List Key:=if lO σ k=true then σ else σ++[k]
def dd (ks:List Key):List Key:=ks.foldl ddS []
theorem bA6 (ks:List Key) (k:Key):dd (ks++[k])=ddS (dd ks) k:=by unfold dd;rw [List.foldl_append];rfl
theorem aD1 {σ: List Key}{k j:Key}:j∈ddS σ k↔j∈σ\/j=k:=by
 unfold ddS
 split
 ·rename_i h
  constructor
  ·exact .inl
  ·rintro (z | z)
   ·exact z
   ·rw [z];exact iY.mp h
 ·simp
theorem rC:∀ (ks σ: List Key) (j:Key),j∈ks.foldl ddS σ↔j∈σ\/j∈ks
 | [],σ,j=>by simp
 | k :: r,σ,j=>by
  rw [List.foldl_cons,rC r,aD1,List.mem_cons]
  constructor
  ·rintro ((h | h) | h)
   ·exact .inl h
   ·exact .inr (.inl h)
   ·exact .inr (.inr h)
  ·rintro (h | h | h)
   ·exact .inl (.inl h)
   ·exact .inl (.inr h)
   ·exact .inr h
theorem zF (ks:List Key) (j:Key):j∈dd ks↔j∈ks:=by unfold dd;rw [rC];simp
theorem vO:∀ (ks σ: List Key),σ.Nodup->(ks.foldl ddS σ).Nodup
 | [],_,h=>h
 | k :: r,σ,h=>by
  refine vO r _ ?_
  unfold ddS
  split
  ·exact h
  ·rename_i hk
   rw [List.nodup_append]
   exact ⟨h,by simp,fun a ha b hb=>by rw [List.mem_singleton.mp hb];exact fun z=>hk (iY.mpr (z ▸ ha))⟩
theorem aS8 (ks:List Key):(dd ks).Nodup:=vO ks [] (by simp)
section
variable {prog:Program}{w:World}{A:Around}{R:Result->Shared->Prop}{I:Addr}{fp wr:List Addr}{G:Array GenState->Array GenState->Prop}{n:Nat}{P:Nat->Value->Prop}{St:Nat->Shared->Prop}
end
theorem uZ {T newId initId:String}{prog:Program}{w:World}{A:Around}{E:Value->Shared->Prop}{s:Shared}{args:List Value}{Q Q₁:Value->Shared->Prop}(ft:TypeCalled T newId initId) (hct:checkTypeCall T ⟨args,[]⟩=pure ())
  (hn:codeAny (model prog w) A.in1 (.call (.builtin newId) ⟨.type T :: args,[]⟩) (wants Q₁ E) s)
  (hi:∀ obj t,Q₁ obj t->t.TypeIs obj T/\codeAny (model prog w) A.in1 (.call (.builtin initId) ⟨obj :: args,[]⟩) (wants (fun r u=>r= .none/\Q obj u) E) t) :
  wpAny (model prog w) A (call (.type T) args) Q E s:=by
 have z1:=ft.notType;have z2:=ft.canCreate;have z3:=ft.made;have z4:=ft.sub
 obtain ⟨c,tl,z5⟩:=ft.mro
 refine wpAny_call (codeAny_of_tree (show wpAny _ _ (callAny (.type T) _) _ _ _ from wpAny_pure ⟨Code.quiet_builtin _ (by decide +kernel),codeAny_builtin F.entry_type_call ?_⟩))
 rw [Around.under_plain (weight_type_call_type T args []) rfl]
 repeat (any_goals (first | assumption | wp_step))
 refine codeAny_mono hn fun r t hr=>?_
 match r,hr with
 | .error e,hr=>exact hr
 | .ok .next,hr=>exact hr.elim
 | .ok .brk,hr=>exact hr.elim
 | .ok .cont,hr=>exact hr.elim
 | .ok (.ret obj),hr =>
  obtain ⟨hT,hc⟩:=hi _ _ hr
  have y1:=ft.init.lookup;have y2:=ft.init.bind obj
  repeat (any_goals (first | assumption | wp_step))
  refine codeAny_mono hc fun r2 t2 hr2=>?_
  match r2,hr2 with
  | .error e,hr2=>exact hr2
  | .ok .next,hr2=>exact hr2.elim
  | .ok .brk,hr2=>exact hr2.elim
  | .ok .cont,hr2=>exact hr2.elim
  | .ok (.ret r),hr2 =>
   obtain ⟨rfl,hq⟩:=hr2
   repeat (any_goals (first | assumption | wp_step))
section
variable {prog:Program}{w:World}{A:Around}{E:Value->Shared->Prop}{s:Shared}
abbrev fC (led:Bool):Obj:={ cls:= .type "set",dict:=none,data:= .set #[] 0 (.fresh 0 0 led) }
end
section
variable {X:Cx}
end
theorem aK0 (t:SetTable) (j:Nat):(t.put j).1.led=t.led/\(t.put j).1.plain=t.plain:=by
 unfold SetTable.put
 split <;> exact ⟨rfl,rfl⟩
theorem qV (t:SetTable) (n:Nat):(t.orStandIn n).led=t.led/\(t.plain=false->(t.orStandIn n).plain=false):=by
 unfold SetTable.orStandIn
 split
 ·exact ⟨rfl,id⟩
 ·exact ⟨rfl,fun _=>rfl⟩
theorem aP0 (t:SetTable) (es:Array (Int×Value)) (h:Int) (x:Value):(layNew t es h x).2.1.led=t.led/\(t.plain=false->(layNew t es h x).2.1.plain=false):=by
 unfold layNew
 split
 ·rename_i slot d e
  have p:=aK0 t slot
  cases q:t.put slot with
  | mk t' k =>
   rw [q] at p
   have p:t'.led=t.led/\t'.plain=t.plain:=p
   have z:=qV t' (SetTable.insertAt es k (h,x)).size
   show (t'.orStandIn _).led=_/\(_->(t'.orStandIn _).plain=false)
   rw [z.1,p.1]
   exact ⟨rfl,fun e=>z.2 (by rw [p.2];exact e)⟩
 ·exact ⟨rfl,fun _=>rfl⟩
theorem xY {m f v:Nat}{l p:Bool}{hs:Array Int}{t:SetTable}{o:Array Nat}(h:SetTable.laid m f v l p hs=some (t,o)):t.led=l/\t.plain=p:=by
 unfold SetTable.laid at h
 cases q:SetTable.layClean m hs with
 | none=>rw [q] at h;cases h
 | some z =>
  rw [q] at h
  cases h
  exact ⟨rfl,rfl⟩
theorem wM (t:SetTable) (es:Array (Int×Value)) (n:Nat):(relayAll t es n).2.1.led=t.led/\(t.plain=false->(relayAll t es n).2.1.plain=false):=by
 unfold relayAll
 split
 ·rename_i t' o e
  obtain ⟨a,b⟩:=xY e
  dsimp only
  split
  ·exact ⟨a,fun z=>b.trans z⟩
  ·exact ⟨rfl,fun _=>rfl⟩
 ·exact ⟨rfl,fun _=>rfl⟩
def gN (prog:Program) (w:World) (h:Heap) (a:Addr) (S:Key->Bool) (n:Nat) (led:Bool):Prop :=
 ∃ (o:Obj) (es:Array (Int×Value)) (ep:Nat) (t:SetTable),(h.get? a=some o/\o.ExactSet/\o.data= .set es ep t)/\(ElemsOf (bH prog w) es.toList/\∀ j,S j=true↔∃ e∈es.toList,(bH prog w).is j e.2=true)/\(es.size < scanBound/\t.fits es.size=true/\es.size=n)/\t.led=led/\(0 < n->t.plain=false)
section
variable {prog:Program}{w:World}{A:Around}{E:Value->Shared->Prop}{s:Shared}{a:Addr}{S:Key->Bool}{n:Nat}{led:Bool}
theorem gN.keep {h h':Heap}(x:gN prog w h a S n led) (k:∀ o,h.get? a=some o->h'.get? a=some o):gN prog w h' a S n led:=by
 obtain ⟨o,es,ep,t,⟨x1,x2,x3⟩,r⟩:=x
 exact ⟨o,es,ep,t,⟨k o x1,x2,x3⟩,r⟩
theorem gN.stored {h:Heap}{o:Obj}{es es':Array (Int×Value)}{ep:Nat}{t t':SetTable}(h1:h.get? a=some o) (h2:o.ExactSet) (h3:o.data= .set es ep t) (h4:ElemsOf (bH prog w) es'.toList) (h5:∀ j,S j=true↔∃ e∈es'.toList,(bH prog w).is j e.2=true) (h6:es'.size < scanBound) (h7:t'.fits es'.size=true) (h8:t'.led=led) (h9:t'.plain=false) :
  (h.update a (Obj.putSet es' t')).get? a=some { o with data:= .set es' (ep+1) t' }/\gN prog w (h.update a (Obj.putSet es' t')) a S es'.size led:=by
 obtain ⟨g,_⟩:=SetOf_store (knd:=bH prog w) (S':=S) h1 h2 h3 h4 h5 h6 h7
 exact ⟨g,_,es',ep+1,t',⟨g,h2,rfl⟩,⟨h4,h5⟩,⟨h6,h7,rfl⟩,h8,fun _=>h9⟩
theorem sN {g:Bool->Sem Unit}(hg:∀ (b:Bool) (z:Shared) (R:Unit->Shared->Prop),R () z->wpAny (model prog w) A (g b) R E z)
  {o:Obj}{es es1:Array (Int×Value)}{ep:Nat}{t t2:SetTable}(h1:s.heap.get? a=some o) (h2:o.ExactSet) (h3:o.data= .set es ep t)
  (h4:ElemsOf (bH prog w) es1.toList) (h5:∀ j,S j=true↔∃ e∈es1.toList,(bH prog w).is j e.2=true) (h6:es1.size < scanBound) (h7:t2.fits es1.size=true) (h8:t2.led=led) (h9:t2.plain=false) {d:Bool}{R:Option Bool->Shared->Prop}
  (k:∀ h',Heap.SameBut a s.heap h'->gN prog w h' a S es1.size led->R (some true) { s with heap:=h' }) :
  wpAny (model prog w) A (do
   storeSet a es1 t2
   if (!d && t2.tooFull)=true then
    (do g (relayAll t2 es1 (SetTable.grown es1.size)).2.2;storeSet a (relayAll t2 es1 (SetTable.grown es1.size)).1 (relayAll t2 es1 (SetTable.grown es1.size)).2.1;pure (some true))
   else pure (some true)) R E s:=by
 obtain ⟨o1,S1⟩:=gN.stored (led:=led) h1 h2 h3 h4 h5 h6 h7 h8 h9
 have b1:=Heap.SameBut.update s.heap a (Obj.putSet es1 t2)
 refine wpAny_bind (wpAny_storeSet_of h1 h3 ?_ (fits_of_scanBound h6))
 by_cases c:(!d && t2.tooFull)=true
 ·rw [if_pos c]
  have pm:=relayAll_perm t2 es1 (SetTable.grown es1.size)
  have ft:=relayAll_fits t2 es1 (SetTable.grown es1.size)
  have mk:=wM t2 es1 (SetTable.grown es1.size)
  revert pm ft mk
  cases relayAll t2 es1 (SetTable.grown es1.size) with
  | mk es2 z =>
  cases z with
  | mk t3 gv =>
  intro pm ft mk
  have sz:es2.size=es1.size:=by rw [<- Array.length_toList, <- Array.length_toList];exact pm.length_eq
  have b2:es2.size < scanBound:=by rw [sz];exact h6
  refine wpAny_bind (hg _ _ _ (wpAny_bind (wpAny_storeSet_of o1 rfl ?_ (fits_of_scanBound b2))))
  obtain ⟨_,S2⟩:=gN.stored (led:=led) (S:=S) (es':=es2) (t':=t3) o1 h2 rfl (h4.perm pm) (fun j=>(h5 j).trans ⟨fun ⟨e,m,q⟩=>⟨e,pm.mem_iff.mpr m,q⟩,fun ⟨e,m,q⟩=>⟨e,pm.mem_iff.mp m,q⟩⟩) b2 ft (mk.1.trans h8) (mk.2 h9)
  rw [sz] at S2
  exact wpAny_pure (k _ (b1.trans (Heap.SameBut.update _ a _)) S2)
 ·rw [if_neg c]
  exact wpAny_pure (k _ b1 S1)
theorem aQ7 {x:Value}{z:Str}{Q:Bool->Shared->Prop}(hx:(bH prog w).is (Sum.inr z) x=true) (sx:x.scannable=true) (px:plainKind x=false) (F:gN prog w s.heap a S n led) (room:n+1 < scanBound)
  (k:∀ h',Heap.SameBut a s.heap h'->gN prog w h' a (fun j=>S j || decide (j=Sum.inr z)) (if S (Sum.inr z) then n else n+1) led->Q (!S (Sum.inr z)) { s with heap:=h' }) :
  wpAny (model prog w) A (setAddHashed a x ((bH prog w).hash (Sum.inr z))) Q E s:=by
 obtain ⟨o,es,ep,t,⟨x1,x2,x3⟩,⟨x4,x5⟩,⟨x6,x7,x8⟩,x9,x10⟩:=F
 unfold setAddHashed setAddHashedIn
 refine wpAny_holding (wpAny_bind (wpAny_setState_of x1 x3 x7 ?_))
 dsimp only
 rw [byScan_of sx x6 x4,if_pos rfl]
 unfold setAddByScan
 refine wpAny_bind (wpAny_bind (wpAny_rule (wpAny_bind (wpAny_setScan_of hx x1 x3 x7 x4 ?_))))
 cases f:List.findIdx? (fun e=>(bH prog w).is (Sum.inr z) e.2) es.toList with
 | some j =>
  obtain ⟨hj,pj,_⟩:=List.findIdx?_eq_some_iff_getElem.mp f
  have there:S (Sum.inr z)=true:=(x5 _).mpr ⟨es.toList[j],List.getElem_mem hj,pj⟩
  refine wpAny_pure (wpAny_pure ?_)
  have q:=k s.heap (Heap.SameBut.refl a s.heap) ⟨o,es,ep,t,⟨x1,x2,x3⟩,⟨x4,fun i=>?_⟩,⟨x6,x7,by rw [if_pos there];exact x8⟩,x9,by rw [if_pos there];exact x10⟩
  ·rw [there] at q;exact q
  ·rw [<- x5 i,Bool.or_eq_true,decide_eq_true_eq]
   constructor
   ·rintro (q | q)
    ·exact q
    ·rw [q];exact there
   ·exact .inl
 | none =>
  have away:S (Sum.inr z)=false:=by
   cases q:S (Sum.inr z) with
   | false=>rfl
   | true =>
    obtain ⟨e,m,y⟩:=(x5 _).mp q
    have u:=List.findIdx?_eq_none_iff.mp f e m
    rw [y] at u;cases u
  have gw:∀ (b:Bool) (z:Shared) (R:Unit->Shared->Prop),R () z->wpAny (model prog w) A (match b with | true=>rule "set.scan.the-table-gave-way" | false=>pure ()) R E z:=fun b z R q=>by
   cases b
   ·exact wpAny_pure q
   ·exact wpAny_rule q
  have pm:=layNew_perm t es ((bH prog w).hash (Sum.inr z)) x
  have ft:=layNew_fits t es ((bH prog w).hash (Sum.inr z)) x
  have mk:=aP0 t es ((bH prog w).hash (Sum.inr z)) x
  dsimp only
  revert pm ft mk
  cases layNew t es ((bH prog w).hash (Sum.inr z)) x with
  | mk es1 z1 =>
  cases z1 with
  | mk t1 z2 =>
  cases z2 with
  | mk wd gv =>
  intro pm ft mk
  dsimp only at pm ft mk ⊢
  rw [Array.toList_push] at pm
  have el1:ElemsOf (bH prog w) es1.toList:=(x4.push hx sx).perm pm
  have mm:=mem_push_iff (knd:=bH prog w) hx x5 pm
  have l1:es1.size=n+1:=by
   have e:=pm.length_eq
   rw [List.length_append,Array.length_toList,Array.length_toList,x8] at e
   exact e
  have b1:es1.size < scanBound:=by rw [l1];exact room
  have fin:∀ h',Heap.SameBut a s.heap h'->gN prog w h' a (fun j=>S j || decide (j=Sum.inr z)) es1.size led->Q true { s with heap:=h' }:=fun h' b F'=>by
   have q:=k h' b
   rw [away] at q
   rw [l1] at F'
   exact q F'
  refine wpAny_bind (gw _ _ _ ?_)
  cases pl:t1.plain with
  | true =>
   rw [if_pos rfl]
   refine wpAny_bind ?_
   rw [hashByValue_scannable 8 sx,px]
   refine wpAny_pure ?_
   refine sN (S:=fun j=>S j || decide (j=Sum.inr z)) (led:=led) (t2:={ t1 with plain:=false }) gw x1 x2 x3 el1 mm b1 (SetTable.fits_plain_off ft) (mk.1.trans x9) rfl fun h' b F'=>?_
   exact wpAny_pure (fin h' b F')
  | false =>
   rw [if_neg (by decide)]
   refine wpAny_bind (wpAny_pure ?_)
   refine sN (S:=fun j=>S j || decide (j=Sum.inr z)) (led:=led) (t2:=t1) gw x1 x2 x3 el1 mm b1 ft (mk.1.trans x9) pl fun h' b F'=>?_
   exact wpAny_pure (fin h' b F')
end
theorem eU {K:PySem.W.Frag}{a:Addr}{xs:List V}{g:TG}{tb:TS}{D:lE}{σ: St}{H:Hp}(Pv:Nat->St->Hp->Prop) (h0:Pv 0 σ H) (hl:∀ i σ H,i<=xs.length->Pv i σ H->bN K H a xs)
  (hs:∀ (D':lE),∀ i x σ H,xs[i]?=some x->Pv i σ H->g x σ H fun σ2 H2=>tb { D' with nx:=Pv (i+1),ct:=Pv (i+1),bk:=D'.nx } σ2 H2) (hd:∀ σ H,Pv xs.length σ H->D.nx σ H) :
  ∃ W:Nat->Nat->St->Hp->Prop,(∃ m,W 0 m σ H)/\∀ i m σ H,W i m σ H ->
   ((Itl K a).stop i H/\D.nx σ H)\/((Itl K a).go i H/\∃ N:St->Hp->Prop,(∀ σ' H',N σ' H'->∃ m',m' < m/\W (i+1) m' σ' H')/\∀ x H',(Itl K a).yld i H x H'->g x σ H' fun σ2 H2=>tb { D with nx:=N,ct:=N,bk:=D.nx } σ2 H2):=xD Pv h0 hl (hs D) hd
theorem pN {K:PySem.W.Frag}{a:Addr}{xs:List V}{g:TG}{tb:TS}{D:lE}{σ: St}{H:Hp}(Pv:Nat->St->Hp->Prop) (h0:Pv 0 σ H) (hl:∀ i σ H,i<=xs.length->Pv i σ H->aX K H a xs)
  (hs:∀ (D':lE),∀ i x σ H,xs[i]?=some x->Pv i σ H->g x σ H fun σ2 H2=>tb { D' with nx:=Pv (i+1),ct:=Pv (i+1),bk:=D'.nx } σ2 H2) (hd:∀ σ H,Pv xs.length σ H->D.nx σ H) :
  ∃ W:Nat->Nat->St->Hp->Prop,(∃ m,W 0 m σ H)/\∀ i m σ H,W i m σ H ->
   ((Itt K a).stop i H/\D.nx σ H)\/((Itt K a).go i H/\∃ N:St->Hp->Prop,(∀ σ' H',N σ' H'->∃ m',m' < m/\W (i+1) m' σ' H')/\∀ x H',(Itt K a).yld i H x H'->g x σ H' fun σ2 H2=>tb { D with nx:=N,ct:=N,bk:=D.nx } σ2 H2):=bD7 Pv h0 hl (hs D) hd
theorem jK {lo:Int}{n:Nat}{g:TG}{tb:TS}{D:lE}{σ: St}{H:Hp}(Pv:Nat->St->Hp->Prop) (h0:Pv 0 σ H)
  (hs:∀ (D':lE),∀ i σ H,i < n->Pv i σ H->g (.int (lo+i)) σ H fun σ2 H2=>tb { D' with nx:=Pv (i+1),ct:=Pv (i+1),bk:=D'.nx } σ2 H2) (hd:∀ σ H,Pv n σ H->D.nx σ H) :
  ∃ W:Nat->Nat->St->Hp->Prop,(∃ m,W 0 m σ H)/\∀ i m σ H,W i m σ H ->
   ((Itr lo n).stop i H/\D.nx σ H)\/((Itr lo n).go i H/\∃ N:St->Hp->Prop,(∀ σ' H',N σ' H'->∃ m',m' < m/\W (i+1) m' σ' H')/\∀ x H',(Itr lo n).yld i H x H'->g x σ H' fun σ2 H2=>tb { D with nx:=N,ct:=N,bk:=D.nx } σ2 H2):=jD Pv h0 (hs D) hd
theorem aV7 {vs:List V}{us:List Value}(hl:us.length=vs.length) (h:∀ (j:Nat) (u:Value),us[j]?=some u->∃ v,vs[j]?=some v/\bX v u):bP vs us:=by
 induction vs generalizing us with
 | nil=>cases us with
  | nil=>exact .nil
  | cons _ _=>simp at hl
 | cons v vs ih=>cases us with
  | nil=>simp at hl
  | cons u us =>
   obtain ⟨v',e,r⟩:=h 0 u rfl
   cases e
   exact .cons r (ih (by simpa using hl) fun j w e=>h (j+1) w (by simpa using e))
theorem wQ {prog:Program}{w:World}{A:Around}{E:Value->Shared->Prop}{s:Shared}{T:String}{r d:Addr}{n:Nat}{P:Nat->Value->Prop}{OK:Heap->Prop}{R:List Value->Shared->Prop}
  (K:PySem.W.KdlSrc prog w T r d n P OK) (hh:A.handled=none) (hok:OK s.heap) (hn:n<=sizeLine)
  (h:∀ (h':Heap) (tk:Nat) (acc:Array Value),(∀ b o,s.heap.get? b=some o->h'.get? b=some o)->s.heap.objs.size<=h'.objs.size->ItemsOf P acc n->R acc.toList { s with heap:=h',toks:=tk }) :
  wpAny (model prog w) A (collect (.ref r)) R E s:=by
 let L:=s.heap.objs.size
 let G:Result->Shared->Prop:=fun q s'=>∃ (g:Heap) (tk:Nat) (acc:Array Value) (c:Nat),q= .ok (.ret (.ref L))/\s'={ s with heap:=g,toks:=tk }/\(∀ b o,s.heap.get? b=some o->g.get? b=some o)/\g.get? L=some { cls:= .type "list",dict:=none,data:= .seq acc c,slots:= #[] }/\ItemsOf P acc n
 unfold collect
 refine wpAny_bind (wpAny_runValue (codeAny_builtin entry_proto_collect' ?_))
 rw [Around.under_plainId PySem.F.plain_proto_collect _]
 refine (show wpAny _ A.in1 (newList [] >>= fun l=>again (.builtin "list.__iadd__" ⟨[l,.ref r],[]⟩)) _ _ s from wpAny_bind (wpAny_newObj_type (wpAny_pure ⟨plainId_quiet PySem.F.plain_list_iadd _,codeAny_builtin entry_list_iadd' ?_⟩)))
 rw [Around.under_plainId PySem.F.plain_list_iadd _]
 have lt:=K.there _ hok
 refine (show wpAny _ A.in1 (Builtin.List.listExtendWith (.ref L) (.ref r) (.ref L)) _ _ _ from wpAny_mono (PySem.W.kdl_extend (A:=A) (R:=G) (s:={ s with heap:=s.heap.push { cls:= .type "list",data:= .seq ([]:List Value).toArray } }) K hh (K.keep _ _ hok fun b _ o e=>Heap.get?_push_of_some _ e) L (Nat.ne_of_gt lt.1) (Nat.ne_of_gt lt.2) (.ref L) 0 (Heap.get?_push_size _ rfl)
  (fun g tk acc c hk hS ha=>⟨g,tk,acc,c,rfl,rfl,fun b o e=>hk b o (Nat.ne_of_lt (Heap.lt_size e)) (Heap.get?_push_of_some _ e),hS,ha⟩) hn) (fun f s' x=>?_) fun e s' ⟨_,_,_,_,z,_⟩=>nomatch z)
 have last:∀ (g:Heap) (tk:Nat) (acc:Array Value) (c:Nat),(∀ b o,s.heap.get? b=some o->g.get? b=some o)->g.get? L=some { cls:= .type "list",dict:=none,data:= .seq acc c,slots:= #[] }->ItemsOf P acc n ->
   wpAny (model prog w) A (load L >>= fun o=>match o.data with | .seq xs _=>pure xs.toList | _=>unsupported "internal:collect") R E { s with heap:=g,toks:=tk } :=
  fun g tk acc c hk hS ha=>wpAny_bind (wpAny_load hS (wpAny_pure (h g tk acc hk (Nat.le_of_lt (Heap.lt_size hS)) ha)))
 cases f with
 | done f =>
  obtain ⟨g,tk,acc,c,e,rfl,hk,hS,ha⟩:=x
  cases e
  exact last g tk acc c hk hS ha
 | again c₁ =>
  refine ⟨x.1,codeAny_mono x.2 fun q s₂ y=>?_⟩
  obtain ⟨g,tk,acc,c,rfl,rfl,hk,hS,ha⟩:=y
  exact last g tk acc c hk hS ha
theorem qW:entryFor table "set.__iter__"=some Builtin.«frozenset.__iter__» :=entryFor_alias (id':="frozenset.__iter__") (by kernel_rfl) rfl (by decide +kernel) (by kernel_rfl)
theorem cN:Slot "set_iterator" "__next__" "set_iterator.__next__" :=
 Slot.of (T:="set_iterator") (owner:="set_iterator") (n:="__next__") (by rw [typeLookup_type,builtinLookup_eq_fast];kernel_rfl) (by decide +kernel) (by decide +kernel) (by decide +kernel) (.inl (by decide +kernel)) (by rw [isSubtype_type];kernel_rfl)
theorem fV:entryFor table "set_iterator.__next__"=some Builtin.«set_iterator.__next__» :=entryFor_of_tree (by kernel_rfl)
theorem gW (a:Value):argsOk "set_iterator.__next__" ⟨[a],[]⟩:=by
 unfold argsOk
 kernel_rfl
abbrev lG (w:World):Bool:=w.params.followText "set-order"
section
variable {prog:Program}{w:World}{A:Around}{E:Value->Shared->Prop}{s:Shared}
theorem xZ {src:Source}{n:Nat}{Q:Nat->Shared->Prop}(hn:n≠0) (h:∀ i,i < n->Q i { s with drawn:=s.drawn.bump src }):wpAny (model prog w) A (choose src n) Q E s :=
 fun Γ p hΓ=>⟨hn,h _ (Nat.mod_lt _ (Nat.pos_of_ne_zero hn))⟩
theorem rQ {α: Type}:∀ (n:Nat) (xs:List α) (s:Shared) (Q:List α->Shared->Prop),xs.length=n->(∀ ys d',ys.Perm xs->Q ys { s with drawn:=d' })->wpAny (model prog w) A (drawOrder n xs) Q E s
 | 0,xs,s,Q,hl,h=>by
  have e:xs=[]:=List.length_eq_zero_iff.mp hl
  subst e
  exact wpAny_pure (h [] s.drawn (List.Perm.refl _))
 | n+1,[],s,Q,hl,h=>by cases hl
 | n+1,x :: r,s,Q,hl,h=>by
  show wpAny _ _ (choose .order (x :: r).length >>= _) _ _ _
  refine wpAny_bind (xZ (by simp) fun i hi=>?_)
  rw [List.getElem?_eq_getElem hi]
  refine wpAny_bind (rQ n _ _ _ ?_ fun ys d' p=>?_)
  ·rw [List.length_eraseIdx_of_lt hi];simpa using hl
  ·refine wpAny_pure (h _ d' ?_)
   refine (List.Perm.cons _ p).trans ?_
   rw [List.eraseIdx_eq_take_drop_succ]
   have e:(x :: r)=(x :: r).take i++((x :: r)[i] :: (x :: r).drop (i+1)):=by rw [List.getElem_cons_drop,List.take_append_drop]
   exact (List.perm_middle (a:=(x :: r)[i])).symm.trans (by rw [<- e])
end
def fM (h:Heap) (it:Addr) (fs:Array Value):Prop:=∃ o,h.get? it=some o/\o.cls= .type "set_iterator"/\o.data= .fields fs
theorem fM.typeIs {s:Shared}{it:Addr}{fs:Array Value}(h:fM s.heap it fs):s.TypeIs (.ref it) "set_iterator":=let ⟨o,ho,hc,_⟩:=h;⟨o,ho,hc⟩
theorem fM.at {h h':Heap}{it:Addr}{fs:Array Value}(x:fM h it fs) (k:∀ o,h.get? it=some o->h'.get? it=some o):fM h' it fs:=let ⟨o,ho,r⟩:=x;⟨o,k o ho,r⟩
section
variable {prog:Program}{w:World}{A:Around}{E:Value->Shared->Prop}{s:Shared}{a:Addr}{o:Obj}{es:Array (Int×Value)}{ep:Nat}{t:SetTable}
abbrev aR7 (first:Value) (a:Addr) (n ep:Nat):Obj:={ cls:= .type "set_iterator",data:= .fields #[first,rawInt 0,.ref a,rawInt n,rawInt ep] }
theorem aF7 {Q:Value->Shared->Prop}(h1:s.heap.get? a=some o) (h2:o.cls= .type "set") (h3:o.data= .set es ep t) (hf:t.fits es.size=true)
  (hA:(lG w=true\/es.size<=1)->Q (.ref s.heap.objs.size) { s with heap:=s.heap.push (aR7 (rawInt 0) a es.size ep) })
  (hB:lG w=false->∀ (ys:List Nat) d',ys.Perm (List.range es.size)->Q (.ref (s.heap.push (seqObj "tuple" (ys.map fun i:Nat=>rawInt i).toArray 0)).objs.size) { s with drawn:=d',heap:=(s.heap.push (seqObj "tuple" (ys.map fun i:Nat=>rawInt i).toArray 0)).push (aR7 (.ref s.heap.objs.size) a es.size ep) })
  (hp:0 < es.size->t.plain=false) (hz:es.size < 4096):wpAny (model prog w) A (pyIter (.ref a)) Q E s:=by
 have hT:s.TypeIs (.ref a) "set":=⟨o,h1,h2⟩
 refine wpAny_pyIter_slot hT F.slot_set_iter (wpAny_call_entry F.slot_set_iter hT qW ?_ (F.args_set_iter_1 _))
 unfold Builtin.«frozenset.__iter__» Builtin.Frozenset.slot0 slotArgs
 simp only [List.isEmpty_nil,Bool.not_true,Bool.false_eq_true,if_false,bind_assoc,List.length_nil,bne_self_eq_false]
 unfold Builtin.Frozenset.addrOf Builtin.Frozenset.sizeOf
 refine wpAny_bind (wpAny_pure ?_)
 dsimp only
 refine wpAny_bind (wpAny_pure ?_)
 simp only [bind_assoc]
 refine wpAny_bind (wpAny_setEntries_of h1 h3 hf ?_)
 refine wpAny_bind (wpAny_pure ?_)
 unfold setDrawn setsByText
 simp only [bind_assoc]
 refine wpAny_bind (wpAny_setState_of h1 h3 hf ?_)
 dsimp only
 refine wpAny_bind (wpAny_askSetting ?_)
 refine wpAny_bind (wpAny_pure ?_)
 refine wpAny_bind (wpAny_pure ?_)
 change wpAny _ _ (if (!lG w && (!t.plain && decide (es.size > 1)))=true then _ else _) _ _ _
 by_cases c:(!lG w && (!t.plain && decide (es.size > 1)))=true
 ·rw [if_pos c]
  have c1:lG w=false:=by
   rw [Bool.and_eq_true] at c
   simpa using c.1
  refine wpAny_bind (rQ _ _ _ _ (List.length_range ..) fun ys d' py=>?_)
  have yl:ys.length=es.size:=by rw [py.length_eq,List.length_range]
  unfold newTuple
  refine wpAny_bind (wpAny_newObj_type ?_ (by show (List.map _ ys).toArray.size<=_;rw [List.size_toArray,List.length_map,yl,sizeLine_eq];omega))
  have h4:=Heap.get?_push_of_some (seqObj "tuple" (ys.map fun i:Nat=>rawInt i).toArray 0) h1
  refine wpAny_bind (wpAny_setEpoch_of h4 h3 hf ?_)
  unfold newFields
  refine wpAny_bind (wpAny_newObj_type (wpAny_pure ⟨_,rfl,"set_iterator",_,⟨_,Heap.get?_push_size _ rfl,rfl⟩,cN.lookup,hB c1 ys d' py⟩))
 ·rw [if_neg c]
  have c1:lG w=true\/es.size<=1:=by
   by_cases b:lG w=true
   ·exact .inl b
   ·refine .inr (Decidable.byContradiction fun z=>c ?_)
    have b:lG w=false:=by simpa using b
    rw [b,hp (by omega),decide_eq_true (show es.size > 1 by omega)]
    rfl
  refine wpAny_bind (wpAny_pure ?_)
  refine wpAny_bind (wpAny_setEpoch_of h1 h3 hf ?_)
  unfold newFields
  refine wpAny_bind (wpAny_newObj_type (wpAny_pure ⟨_,rfl,"set_iterator",_,⟨_,Heap.get?_push_size _ rfl,rfl⟩,cN.lookup,hA c1⟩))
end
section
variable {prog:Program}{w:World}{A:Around}{E:Value->Shared->Prop}{s:Shared}{a it tp:Addr}{o:Obj}{es:Array (Int×Value)}{ep:Nat}{t:SetTable}
theorem pF {α: Type}{R:α->Shared->Prop}(hh:A.handled=none) (k:∀ e g,(∀ c o,s.heap.get? c=some o->g.get? c=some o)->(∃ oe,g.get? e=some oe/\oe.cls= .type "StopIteration")->E (.ref e) { s with heap:=g }) :
  wpAny (model prog w) A (newExc (.type "StopIteration") [] >>= fun e=>raiseNew (α:=α) e) R E s:=by
 refine wpAny_bind ?_
 simp only [newExc,newTuple]
 refine wpAny_bind (wpAny_newObj_type (wpAny_bind (m:=firstArgMember _ _) (wpAny_of_eq (a:=Value.none) (by first | rfl | (simp only [firstArgMember];rfl)) (wpAny_newObj_type ?_ (by size_fits)))) (by size_fits))
 unfold raiseNew
 refine wpAny_bind (wpAny_handled ?_)
 rw [hh]
 refine wpAny_bind (wpAny_pure (wpAny_throw (k _ _ (fun c o e=>Heap.get?_push_of_some _ (Heap.get?_push_of_some _ e)) ⟨_,Heap.get?_push_size _ rfl,rfl⟩)))
theorem yZ {i j:Nat}{items:Array Value}{hx:Int}{x:Value}{Q:Option Value->Shared->Prop}(hit:fM s.heap it #[.ref tp,rawInt i,.ref a,rawInt es.size,rawInt ep]) (ht:s.heap.IsTuple tp items) (h1:s.heap.get? a=some o) (h3:o.data= .set es ep t) (hf:t.fits es.size=true)
  (hi:items[i]?=some (rawInt j)) (he:es[j]?=some (hx,x)) (hQ:∀ h',fM h' it #[.ref tp,rawInt (i+1:Nat),.ref a,rawInt es.size,rawInt ep]->Heap.SameBut it s.heap h'->Q (some x) { s with heap:=h' }):wpAny (model prog w) A (pyNext (.ref it)) Q E s:=by
 obtain ⟨oi,ho,hc,hd⟩:=id hit
 unfold pyNext
 refine wpAny_bind (wpAny_attempt (wpAny_callSpecial?_slot (name:=Str.ofString "__next__") hit.typeIs cN (wpAny_call_entry cN hit.typeIs fV ?_ (gW _))))
 unfold Builtin.«set_iterator.__next__» slotArgs
 simp only [List.isEmpty_nil,Bool.not_true,Bool.false_eq_true,if_false,bind_assoc,List.length_nil,bne_self_eq_false]
 refine wpAny_bind (wpAny_pure ?_)
 dsimp only
 refine wpAny_bind (wpAny_fieldsOf ho hd ?_)
 refine (show wpAny _ _ (setEntries a >>= fun es=>_) _ _ _ from wpAny_bind (wpAny_setEntries_of h1 h3 hf ?_))
 rw [if_neg (by simp)]
 refine (show wpAny _ _ (seqItems? (.ref tp) >>= fun z=>_) _ _ _ from wpAny_bind ?_)
 obtain ⟨ot,g1,g2,g3,g4⟩:=id ht
 refine wpAny_seqItems g1 g4 ?_
 dsimp only
 rw [show ((i:Int)).toNat=i from Int.toNat_natCast i,hi]
 refine (show wpAny _ _ (setNextDrawn a ((j:Int)).toNat ((ep:Int)).toNat >>= fun z=>_) _ _ _ from wpAny_bind ?_)
 rw [Int.toNat_natCast,Int.toNat_natCast]
 unfold setNextDrawn
 refine wpAny_bind (wpAny_setState_of h1 h3 hf ?_)
 dsimp only
 rw [if_neg (by simp),he]
 refine wpAny_bind (wpAny_pure (wpAny_pure ?_))
 refine wpAny_bind (wpAny_setField ho hd (by simp) ?_)
 have hit':fM (s.heap.update it (Obj.mapFields (·.setIfInBounds 1 (rawInt ((i:Int)+1))))) it #[.ref tp,rawInt (i+1:Nat),.ref a,rawInt es.size,rawInt ep] :=
  ⟨_,Heap.get?_update_self _ ho (Obj.isFreed_of_fields (Obj.data_mapFields hd _)),(Obj.cls_mapFields ..).trans hc,by rw [Obj.data_mapFields hd];simp [rawInt]⟩
 exact wpAny_pure ⟨_,rfl,wpAny_pure (hQ _ hit' (Heap.SameBut.update ..))⟩
theorem aG0 {i:Nat}{items:Array Value}{Q:Option Value->Shared->Prop}(hh:A.handled=none) (hit:fM s.heap it #[.ref tp,rawInt i,.ref a,rawInt es.size,rawInt ep]) (ht:s.heap.IsTuple tp items) (h1:s.heap.get? a=some o) (h3:o.data= .set es ep t) (hf:t.fits es.size=true)
  (hi:items[i]?=none) (hQ:∀ h',(∀ c u,c≠it->s.heap.get? c=some u->h'.get? c=some u)->Q none { s with heap:=h' }):wpAny (model prog w) A (pyNext (.ref it)) Q E s:=by
 obtain ⟨oi,ho,hc,hd⟩:=id hit
 unfold pyNext
 refine wpAny_bind (wpAny_attempt (wpAny_callSpecial?_slot (name:=Str.ofString "__next__") hit.typeIs cN (wpAny_call_entry cN hit.typeIs fV ?_ (gW _))))
 unfold Builtin.«set_iterator.__next__» slotArgs
 simp only [List.isEmpty_nil,Bool.not_true,Bool.false_eq_true,if_false,bind_assoc,List.length_nil,bne_self_eq_false]
 refine wpAny_bind (wpAny_pure ?_)
 dsimp only
 refine wpAny_bind (wpAny_fieldsOf ho hd ?_)
 refine (show wpAny _ _ (setEntries a >>= fun es=>_) _ _ _ from wpAny_bind (wpAny_setEntries_of h1 h3 hf ?_))
 rw [if_neg (by simp)]
 refine (show wpAny _ _ (seqItems? (.ref tp) >>= fun z=>_) _ _ _ from wpAny_bind ?_)
 obtain ⟨ot,g1,g2,g3,g4⟩:=id ht
 refine wpAny_seqItems g1 g4 ?_
 dsimp only
 rw [show ((i:Int)).toNat=i from Int.toNat_natCast i,hi]
 refine wpAny_bind (wpAny_setField ho hd (by simp) ?_)
 have ho2:=Heap.get?_update_self (Obj.mapFields (·.setIfInBounds 0 (rawInt 0))) ho (Obj.isFreed_of_fields (Obj.data_mapFields hd _))
 have hd2:=Obj.data_mapFields hd (·.setIfInBounds 0 (rawInt 0))
 refine wpAny_bind (wpAny_setField ho2 hd2 (by simp) ?_)
 refine pF (A:=A.in1) hh fun e g keep ⟨oe,q1,q2⟩=>?_
 refine wpAny_bind (wpAny_isInstance (T:="StopIteration") (b:=true) ⟨oe,q1,q2⟩ isSubtype_stop ?_)
 refine wpAny_pure (hQ _ fun c u nc e=>keep c u ?_)
 rw [Heap.get?_update_other _ _ nc.symm,Heap.get?_update_other _ _ nc.symm]
 exact e
theorem oW {i sl nx:Nat}{x:Value}{Q:Option Value->Shared->Prop}(hit:fM s.heap it #[rawInt sl,rawInt i,.ref a,rawInt es.size,rawInt ep]) (h1:s.heap.get? a=some o) (h3:o.data= .set es ep t) (hf:t.fits es.size=true)
  (hn:∀ R:Option (Value×Nat)->Shared->Prop,R (some (x,nx)) s->wpAny (model prog w) A.in1 (setNext a sl i ep) R (fun e s'=>wpAny (model prog w) A (do let b <- isInstance e (.type "StopIteration");if b=true then pure none else throw e) Q E s') s)
  (hQ:∀ h',fM h' it #[rawInt nx,rawInt (i+1:Nat),.ref a,rawInt es.size,rawInt ep]->(∀ c u,c≠it->s.heap.get? c=some u->h'.get? c=some u)->Q (some x) { s with heap:=h' }):wpAny (model prog w) A (pyNext (.ref it)) Q E s:=by
 obtain ⟨oi,ho,hc,hd⟩:=id hit
 unfold pyNext
 refine wpAny_bind (wpAny_attempt (wpAny_callSpecial?_slot (name:=Str.ofString "__next__") hit.typeIs cN (wpAny_call_entry cN hit.typeIs fV ?_ (gW _))))
 unfold Builtin.«set_iterator.__next__» slotArgs
 simp only [List.isEmpty_nil,Bool.not_true,Bool.false_eq_true,if_false,bind_assoc,List.length_nil,bne_self_eq_false]
 refine wpAny_bind (wpAny_pure ?_)
 dsimp only
 refine wpAny_bind (wpAny_fieldsOf ho hd ?_)
 refine (show wpAny _ _ (setEntries a >>= fun es=>_) _ _ _ from wpAny_bind (wpAny_setEntries_of h1 h3 hf ?_))
 rw [if_neg (by simp)]
 refine (show wpAny _ _ (setNext a ((sl:Int)).toNat ((i:Int)).toNat ((ep:Int)).toNat >>= fun z=>_) _ _ _ from wpAny_bind ?_)
 rw [Int.toNat_natCast,Int.toNat_natCast,Int.toNat_natCast]
 refine hn _ ?_
 refine wpAny_bind (wpAny_setField ho hd (by simp) ?_)
 have ho2:=Heap.get?_update_self (Obj.mapFields (·.setIfInBounds 0 (rawInt nx))) ho (Obj.isFreed_of_fields (Obj.data_mapFields hd _))
 have hd2:=Obj.data_mapFields hd (·.setIfInBounds 0 (rawInt nx))
 refine wpAny_bind (wpAny_setField ho2 hd2 (by simp) ?_)
 have hit':fM ((s.heap.update it (Obj.mapFields (·.setIfInBounds 0 (rawInt nx)))).update it (Obj.mapFields (·.setIfInBounds 1 (rawInt ((i:Int)+1))))) it #[rawInt nx,rawInt (i+1:Nat),.ref a,rawInt es.size,rawInt ep] :=
  ⟨_,Heap.get?_update_self _ ho2 (Obj.isFreed_of_fields (Obj.data_mapFields hd2 _)),(Obj.cls_mapFields ..).trans ((Obj.cls_mapFields ..).trans hc),by rw [Obj.data_mapFields hd2];simp [rawInt]⟩
 refine wpAny_pure ⟨_,rfl,wpAny_pure (hQ _ hit' fun c u nc e=>?_)⟩
 rw [Heap.get?_update_other _ _ nc.symm,Heap.get?_update_other _ _ nc.symm]
 exact e
theorem rB {i sl:Nat}{Q:Option Value->Shared->Prop}(hh:A.handled=none) (hit:fM s.heap it #[rawInt sl,rawInt i,.ref a,rawInt es.size,rawInt ep]) (h1:s.heap.get? a=some o) (h3:o.data= .set es ep t) (hf:t.fits es.size=true)
  (hn:∀ R:Option (Value×Nat)->Shared->Prop,R none s->wpAny (model prog w) A.in1 (setNext a sl i ep) R (fun e s'=>wpAny (model prog w) A (do let b <- isInstance e (.type "StopIteration");if b=true then pure none else throw e) Q E s') s)
  (hQ:∀ h',(∀ c u,c≠it->s.heap.get? c=some u->h'.get? c=some u)->Q none { s with heap:=h' }):wpAny (model prog w) A (pyNext (.ref it)) Q E s:=by
 obtain ⟨oi,ho,hc,hd⟩:=id hit
 unfold pyNext
 refine wpAny_bind (wpAny_attempt (wpAny_callSpecial?_slot (name:=Str.ofString "__next__") hit.typeIs cN (wpAny_call_entry cN hit.typeIs fV ?_ (gW _))))
 unfold Builtin.«set_iterator.__next__» slotArgs
 simp only [List.isEmpty_nil,Bool.not_true,Bool.false_eq_true,if_false,bind_assoc,List.length_nil,bne_self_eq_false]
 refine wpAny_bind (wpAny_pure ?_)
 dsimp only
 refine wpAny_bind (wpAny_fieldsOf ho hd ?_)
 refine (show wpAny _ _ (setEntries a >>= fun es=>_) _ _ _ from wpAny_bind (wpAny_setEntries_of h1 h3 hf ?_))
 rw [if_neg (by simp)]
 refine (show wpAny _ _ (setNext a ((sl:Int)).toNat ((i:Int)).toNat ((ep:Int)).toNat >>= fun z=>_) _ _ _ from wpAny_bind ?_)
 rw [Int.toNat_natCast,Int.toNat_natCast,Int.toNat_natCast]
 refine hn _ ?_
 refine wpAny_bind (wpAny_setField ho hd (by simp) ?_)
 refine pF (A:=A.in1) hh fun e g keep ⟨oe,q1,q2⟩=>?_
 refine wpAny_bind (wpAny_isInstance (T:="StopIteration") (b:=true) ⟨oe,q1,q2⟩ isSubtype_stop ?_)
 refine wpAny_pure (hQ _ fun c u nc e=>keep c u ?_)
 rw [Heap.get?_update_other _ _ nc.symm]
 exact e
end
theorem nL:entryFor table "set_iterator.__iter__"=some Builtin.«dict_keyiterator.__iter__» :=entryFor_alias (id':="dict_keyiterator.__iter__") (by kernel_rfl) rfl (by decide +kernel) (by kernel_rfl)
theorem jW:Slot "set_iterator" "__iter__" "set_iterator.__iter__" :=
 Slot.of (T:="set_iterator") (owner:="set_iterator") (n:="__iter__") (by rw [typeLookup_type,builtinLookup_eq_fast];kernel_rfl) (by decide +kernel) (by decide +kernel) (by decide +kernel) (.inl (by decide +kernel)) (by rw [isSubtype_type];kernel_rfl)
theorem qK (a:Value):argsOk "set_iterator.__iter__" ⟨[a],[]⟩:=by
 unfold argsOk
 kernel_rfl
theorem rV {α: Type}(next:Nat->Nat):∀ (f k:Nat) (l:List α) (out:Array α),f=l.length->(pickOrder.go next f k l out).toList.Perm (out.toList++l)
 | 0,k,l,out,h=>by
  have e:l=[]:=List.length_eq_zero_iff.mp h.symm
  subst e
  show out.toList.Perm (out.toList++[])
  rw [List.append_nil]
 | f+1,k,l,out,h=>by
  have hl:next k % l.length < l.length:=Nat.mod_lt _ (by omega)
  have e:pickOrder.go next (f+1) k l out=pickOrder.go next f (k+1) (l.eraseIdx (next k % l.length)) (out.push l[next k % l.length]):=by
   conv=>lhs;unfold pickOrder.go
   rw [List.getElem?_eq_getElem hl]
  rw [e]
  refine (rV next f (k+1) _ _ (by rw [List.length_eraseIdx_of_lt hl];omega)).trans ?_
  rw [Array.toList_push,List.append_assoc]
  refine List.Perm.append_left _ ?_
  rw [List.eraseIdx_eq_take_drop_succ]
  have e2:l=l.take (next k % l.length)++(l[next k % l.length] :: l.drop (next k % l.length+1)):=by rw [List.getElem_cons_drop,List.take_append_drop]
  exact (List.perm_middle (l₁:=l.take (next k % l.length)) (a:=l[next k % l.length])).symm.trans (by rw [<- e2])
theorem iB {α: Type}(next:Nat->Nat) (xs:Array α):(pickOrder next xs).toList.Perm xs.toList:=by
 have:=rV next xs.size 0 xs.toList #[] (by simp)
 simpa [pickOrder] using this
section
variable {prog:Program}{w:World}{A:Around}{E:Value->Shared->Prop}{s:Shared}{a it tp:Addr}{o:Obj}{es:Array (Int×Value)}{ep:Nat}{t:SetTable}
theorem fM.self {fs:Array Value}{Q:Value->Shared->Prop}(hit:fM s.heap it fs) (h:Q (.ref it) s):wpAny (model prog w) A (pyIter (.ref it)) Q E s:=by
 refine wpAny_pyIter_slot hit.typeIs jW (wpAny_call_entry jW hit.typeIs nL ?_ (qK _))
 refine (show wpAny _ _ (ret (.ref it)) _ _ s from ?_)
 exact wpAny_pure ⟨_,rfl,"set_iterator",_,hit.typeIs,cN.lookup,h⟩
theorem mB {sl i:Nat}{R:Option (Value×Nat)->Shared->Prop}(hb:lG w=true) (h1:s.heap.get? a=some o) (h3:o.data= .set es ep t) (hf:t.fits es.size=true)
  (h:R (((pickOrder (w.params.setOrder a ep) es)[i]?).map fun e=>(e.2,sl)) s):wpAny (model prog w) A (setNext a sl i ep) R E s:=by
 unfold setNext setsByText
 refine wpAny_bind (wpAny_setState_of h1 h3 hf ?_)
 dsimp only
 refine wpAny_bind (wpAny_bind (wpAny_askSetting (wpAny_pure ?_)))
 rw [if_pos (show (model prog w).w.params.followText "set-order"=true from hb),if_neg (by simp)]
 unfold setWalk setsByText
 refine wpAny_bind (wpAny_bind (wpAny_setState_of h1 h3 hf ?_))
 dsimp only
 refine wpAny_bind (wpAny_bind (wpAny_askSetting (wpAny_pure ?_)))
 rw [if_pos (show (model prog w).w.params.followText "set-order"=true from hb)]
 refine wpAny_bind (wpAny_askSetting (wpAny_pure (wpAny_pure h)))
theorem mY {sl i:Nat}{R:Option (Value×Nat)->Shared->Prop}(hb:lG w=false) (hz:es.size<=1) (hl:t.led=true) (h1:s.heap.get? a=some o) (h3:o.data= .set es ep t) (hf:t.fits es.size=true)
  (h:R (match es[SetTable.below t.place sl]?,t.place[SetTable.below t.place sl]? with | some (_,x),some j=>some (x,j+1) | _,_=>none) s):wpAny (model prog w) A (setNext a sl i ep) R E s:=by
 unfold setNext setsByText
 refine wpAny_bind (wpAny_setState_of h1 h3 hf ?_)
 dsimp only
 refine wpAny_bind (wpAny_bind (wpAny_askSetting (wpAny_pure ?_)))
 rw [if_neg (show ¬ ((model prog w).w.params.followText "set-order"=true) from by rw [show (model prog w).w.params.followText "set-order"=false from hb];decide)]
 refine wpAny_bind (wpAny_pure ?_)
 have e1:(!t.plain && decide (es.size > 1))=false:=by rw [decide_eq_false (by omega),Bool.and_false]
 refine (show wpAny _ _ (if (!t.plain && decide (es.size > 1))=true then unsupported "set_iterator.__next__:the-table-is-plain-no-more" else _) _ _ _ from ?_)
 rw [if_neg (by rw [e1];decide)]
 refine wpAny_bind ?_
 refine (show wpAny _ _ (if (!t.led && !es.isEmpty)=true then unsupported "set:maker-not-led" else pure ()) _ _ _ from ?_)
 rw [if_neg (by rw [hl];simp)]
 exact wpAny_pure (wpAny_pure h)
end
section
variable {prog:Program}{w:World}{A:Around}{E:Value->Shared->Prop}{s:Shared}{a tp:Addr}{o:Obj}{es:Array (Int×Value)}{ep:Nat}{t:SetTable}
theorem zE (hh:A.handled=none) (J:Addr) (ja:a≠J) (jt:tp≠J) (h3:o.data= .set es ep t) (hf:t.fits es.size=true) (ys:List Nat) (hy:ys.Perm (List.range es.size)) :
  Walks prog w A J [J,tp,a] [J] es.size (fun i v=>(ys.map fun j=>((es[j]?).map (·.2)).getD .none)[i]?=some v)
   (fun i h=>fM h J #[.ref tp,rawInt i,.ref a,rawInt es.size,rawInt ep]/\h.IsTuple tp (ys.map fun i:Nat=>rawInt i).toArray/\h.get? a=some o) where
 sub:=fun b hb=>by simp only [List.mem_singleton] at hb;rw [hb];exact List.mem_cons_self
 frame:=fun i h h' st k=>⟨st.1.at (k J (by simp)),st.2.1.at (k tp (by simp)),k a (by simp) o st.2.2⟩
 item:=fun i s Q E hi st hQ=>by
  have hl:ys.length=es.size:=by rw [hy.length_eq,List.length_range]
  have hiy:i < ys.length:=by omega
  have hj:ys[i] < es.size:=List.mem_range.mp (hy.mem_iff.mp (List.getElem_mem hiy))
  refine yZ (j:=ys[i]) (hx:=es[ys[i]].1) (x:=es[ys[i]].2) st.1 st.2.1 st.2.2 h3 hf (by simp [hiy]) (by simp [hj]) fun h' z q=>?_
  refine hQ _ h' s.toks ?_ ⟨z,st.2.1.at fun u e=>q.extBut _ _ jt e,q.extBut _ _ ja st.2.2⟩ fun b u hb e=>q.extBut b u (fun x=>hb (by rw [x];exact List.mem_cons_self)) e
  simp [hiy,hj]
 done:=fun s Q E st hQ=>by
  have hl:ys.length=es.size:=by rw [hy.length_eq,List.length_range]
  exact aG0 hh st.1 st.2.1 st.2.2 h3 hf (by simp [hl]) fun h' q=>hQ h' s.toks fun b u hb e=>q b u (fun x=>hb (by rw [x];exact List.mem_cons_self)) e
 self:=fun _ _ _ _ st hQ=>st.1.self hQ
theorem aJ2 (hh:A.handled=none) (J:Addr) (ja:a≠J) (h3:o.data= .set es ep t) (hf:t.fits es.size=true) (hb:lG w=true) :
  Walks prog w A J [J,a] [J] es.size (fun i v=>((pickOrder (w.params.setOrder a ep) es).toList.map (·.2))[i]?=some v)
   (fun i h=>fM h J #[rawInt 0,rawInt i,.ref a,rawInt es.size,rawInt ep]/\h.get? a=some o) where
 sub:=fun b hb=>by simp only [List.mem_singleton] at hb;rw [hb];exact List.mem_cons_self
 frame:=fun i h h' st k=>⟨st.1.at (k J (by simp)),k a (by simp) o st.2⟩
 item:=fun i s Q E hi st hQ=>by
  have hp:=(iB (w.params.setOrder a ep) es).length_eq
  rw [Array.length_toList,Array.length_toList] at hp
  have hi':i < (pickOrder (w.params.setOrder a ep) es).size:=by omega
  refine oW (sl:=0) (nx:=0) (x:=(pickOrder (w.params.setOrder a ep) es)[i].2) st.1 st.2 h3 hf (fun R hR=>mB hb st.2 h3 hf (by rw [Array.getElem?_eq_getElem hi'];exact hR)) fun h' z q=>?_
  refine hQ _ h' s.toks ?_ ⟨z,q _ _ ja st.2⟩ fun b u hb e=>q b u (fun x=>hb (by rw [x];exact List.mem_cons_self)) e
  simp [hi']
 done:=fun s Q E st hQ=>by
  have hp:=(iB (w.params.setOrder a ep) es).length_eq
  rw [Array.length_toList,Array.length_toList] at hp
  exact rB (sl:=0) hh st.1 st.2 h3 hf (fun R hR=>mB hb st.2 h3 hf (by rw [Array.getElem?_eq_none (by omega)];exact hR)) fun h' q=>hQ h' s.toks fun b u hb e=>q b u (fun x=>hb (by rw [x];exact List.mem_cons_self)) e
 self:=fun _ _ _ _ st hQ=>st.1.self hQ
theorem sS (j k:Nat):SetTable.below #[j] k=if j < k then 1 else 0:=by
 unfold SetTable.below
 show SetTable.below.go #[j] k 1 0 1=_
 unfold SetTable.below.go
 rw [if_pos (by decide)]
 show (if (#[j]:Array Nat).getD 0 k < k then SetTable.below.go #[j] k 0 1 1 else SetTable.below.go #[j] k 0 0 0)=_
 rw [show (#[j]:Array Nat).getD 0 k=j from rfl]
 rfl
theorem rG {n:Nat}(h:t.fits n=true):t.place.size=n:=by
 unfold SetTable.fits at h
 rw [Bool.and_eq_true] at h
 simpa using h.1
theorem aT4 (hh:A.handled=none) (J:Addr) (ja:a≠J) (h3:o.data= .set es ep t) (hf:t.fits es.size=true) (hb:lG w=false) (hz:es.size<=1) (hl:t.led=true) :
  Walks prog w A J [J,a] [J] es.size (fun i v=>(es.toList.map (·.2))[i]?=some v)
   (fun i h=>(∃ sl:Nat,fM h J #[rawInt sl,rawInt i,.ref a,rawInt es.size,rawInt ep]/\(i=0->sl=0)/\(i=1->∀ j,t.place= #[j]->j < sl))/\h.get? a=some o) where
 sub:=fun b hb=>by simp only [List.mem_singleton] at hb;rw [hb];exact List.mem_cons_self
 frame:=fun i h h' st k=>by
  obtain ⟨⟨sl,x,y⟩,z⟩:=st
  exact ⟨⟨sl,x.at (k J (by simp)),y⟩,k a (by simp) o z⟩
 item:=fun i s Q E hi st hQ=>by
  obtain ⟨⟨sl,x,y,_⟩,z⟩:=st
  have i0:i=0:=by omega
  subst i0
  obtain rfl:sl=0:=y rfl
  have ps:=rG hf
  have e1:es.size=1:=by omega
  obtain ⟨j,hj⟩:∃ j,t.place= #[j]:=by
   have:t.place.size=1:=by omega
   exact Array.size_eq_one_iff.mp this
  obtain ⟨⟨hs,xx⟩,he⟩:∃ q,es= #[q]:=Array.size_eq_one_iff.mp e1
  refine oW (sl:=0) (nx:=j+1) (x:=xx) x z h3 hf (fun R hR=>mY hb hz hl z h3 hf ?_) fun h' z' q=>?_
  ·rw [hj,sS,if_neg (Nat.not_lt_zero _),he]
   exact hR
  ·refine hQ _ h' s.toks ?_ ⟨⟨j+1,z',fun q=>absurd q (by decide),fun _ j' hj'=>?_⟩,q _ _ ja z⟩ fun b u hb e=>q b u (fun x=>hb (by rw [x];exact List.mem_cons_self)) e
   ·rw [he];rfl
   ·rw [hj] at hj'
    cases hj'
    exact Nat.lt_succ_self _
 done:=fun s Q E st hQ=>by
  obtain ⟨⟨sl,x,_,y⟩,z⟩:=st
  refine rB (sl:=sl) hh x z h3 hf (fun R hR=>mY hb hz hl z h3 hf ?_) fun h' q=>hQ h' s.toks fun b u hb e=>q b u (fun x=>hb (by rw [x];exact List.mem_cons_self)) e
  have ps:=rG hf
  by_cases e0:es.size=0
  ·have:es= #[]:=Array.size_eq_zero_iff.mp e0
   subst this
   exact hR
  ·have e1:es.size=1:=by omega
   obtain ⟨j,hj⟩:∃ j,t.place= #[j]:=by
    have:t.place.size=1:=by omega
    exact Array.size_eq_one_iff.mp this
   obtain ⟨⟨hs,xx⟩,he⟩:∃ q,es= #[q]:=Array.size_eq_one_iff.mp e1
   rw [hj,sS,if_pos (y e1 j hj),he]
   exact hR
 self:=fun _ _ _ _ st hQ=>by
  obtain ⟨⟨sl,x,_⟩,_⟩:=st
  exact x.self hQ
theorem aN6 {Q:Value->Shared->Prop}(h1:s.heap.get? a=some o) (h2:o.cls= .type "set") (h3:o.data= .set es ep t) (hf:t.fits es.size=true) (hl:t.led= !lG w) (hp:0 < es.size->t.plain=false) (hz:es.size < 4096)
  (hQ:∀ (g:Heap) (d':Drawn) (J:Addr) (fp:List Addr) (vs:List Value) (St:Nat->Heap->Prop),(∀ b u,s.heap.get? b=some u->g.get? b=some u)->s.heap.objs.size<=J->(∀ b∈fp,b=a\/s.heap.objs.size<=b) ->
   (∀ A':Around,A'.handled=none->Walks prog w A' J fp [J] es.size (fun i v=>vs[i]?=some v) St)->St 0 g->vs.Perm (es.toList.map (·.2))->Q (.ref J) { s with heap:=g,drawn:=d' }):wpAny (model prog w) A (pyIter (.ref a)) Q E s:=by
 have la:=Heap.lt_size h1
 refine aF7 h1 h2 h3 hf (fun c=>?_) (fun c ys d' py=>?_) hp hz
 ·have ja:a≠s.heap.objs.size:=Nat.ne_of_lt la
  have fpm:∀ b∈[s.heap.objs.size,a],b=a\/s.heap.objs.size<=b:=fun b hb=>by
   simp only [List.mem_cons,List.not_mem_nil,or_false] at hb
   rcases hb with e | e
   ·rw [e];exact .inr (Nat.le_refl _)
   ·exact .inl e
  have g1:fM (s.heap.push (aR7 (rawInt 0) a es.size ep)) s.heap.objs.size #[rawInt 0,rawInt 0,.ref a,rawInt es.size,rawInt ep]:=⟨_,Heap.get?_push_size _ rfl,rfl,rfl⟩
  cases hb:lG w with
  | true =>
   exact hQ _ s.drawn _ [s.heap.objs.size,a] _ _ (fun b u e=>Heap.get?_push_of_some _ e) (Nat.le_refl _) fpm (fun A' h'=>aJ2 h' _ ja h3 hf hb) ⟨g1,Heap.get?_push_of_some _ h1⟩ ((iB _ es).map _)
  | false =>
   rw [hb] at hl c
   have c:es.size<=1:=c.elim (fun c=>by cases c) id
   exact hQ _ s.drawn _ [s.heap.objs.size,a] _ _ (fun b u e=>Heap.get?_push_of_some _ e) (Nat.le_refl _) fpm (fun A' h'=>aT4 h' _ ja h3 hf hb c hl) ⟨⟨0,g1,fun _=>rfl,fun z=>absurd z (by decide)⟩,Heap.get?_push_of_some _ h1⟩ (List.Perm.refl _)
 ·have z1:(s.heap.push (seqObj "tuple" (ys.map fun i:Nat=>rawInt i).toArray 0)).objs.size=s.heap.objs.size+1:=Heap.size_push ..
  have ja:a≠(s.heap.push (seqObj "tuple" (ys.map fun i:Nat=>rawInt i).toArray 0)).objs.size:=by rw [z1];exact Nat.ne_of_lt (Nat.lt_succ_of_lt la)
  have jt:s.heap.objs.size≠(s.heap.push (seqObj "tuple" (ys.map fun i:Nat=>rawInt i).toArray 0)).objs.size:=by rw [z1];exact Nat.ne_of_lt (Nat.lt_succ_self _)
  refine hQ _ d' _ [_,s.heap.objs.size,a] _ _ (fun b u e=>Heap.get?_push_of_some _ (Heap.get?_push_of_some _ e)) (by rw [z1];exact Nat.le_succ _) (fun b hb=>?_) (fun A' h'=>zE h' _ ja jt h3 hf ys py) ⟨⟨_,Heap.get?_push_size _ rfl,rfl,rfl⟩,⟨_,Heap.get?_push_of_some _ (Heap.get?_push_size _ rfl),rfl,0,rfl⟩,Heap.get?_push_of_some _ (Heap.get?_push_of_some _ h1)⟩ ?_
  ·simp only [List.mem_cons,List.not_mem_nil,or_false] at hb
   rcases hb with e | e | e
   ·rw [e,z1];exact .inr (Nat.le_succ _)
   ·rw [e];exact .inr (Nat.le_refl _)
   ·exact .inl e
  ·refine (py.map _).trans ?_
   refine List.Perm.of_eq ?_
   refine List.ext_getElem (by simp) fun i p q=>?_
   have hi:i < es.size:=by simpa using p
   simp [hi]
end
theorem bG.draw {X:Cx}{pins:List (Addr×Obj)}{σ: St}{H:Hp}{s:Shared}(I:bG X pins σ H s) (d':Drawn):bG X pins σ H { s with drawn:=d' } :=
 ⟨I.ok,I.os,I.bare,I.base,I.loc,I.cell,I.free,I.freeC,I.pin,I.hok,I.len⟩
section
variable {prog:Program}{w:World}{A:Around}{E:Value->Shared->Prop}{s:Shared}{a:Addr}{o:Obj}{es:Array (Int×Value)}{ep:Nat}{t:SetTable}
theorem aQ6 {Q:Bool->Shared->Prop}(hT:s.TypeIs (.ref a) "set") (q:Q false s):wpAny (model prog w) A (Builtin.List.listLengthHint (.ref a)) Q E s:=by
 have e0:splitId "set.__len__"=some ("set","__len__"):=by decide +kernel
 unfold Builtin.List.listLengthHint
 refine wpAny_bind (wpAny_specialOf hT F.slot_set_len.lookup ?_)
 generalize hzz:("set.__len__": String)=z at e0 ⊢
 wp_delta
 rw [e0]
 subst hzz
 refine wpAny_bind (wpAny_isInstance (T:="set") (b:=true) hT sub_set_self ?_)
 refine wpAny_ite_split (fun x=>absurd x (by decide)) fun _=>wpAny_ite_split (fun _=>?_) fun x=>absurd (by decide +kernel) x
 exact wpAny_bind (wpAny_typeOf hT (wpAny_pure q))
theorem yI {R:Result->Shared->Prop}(h1:s.heap.get? a=some o) (h2:o.cls= .type "set") (h3:o.data= .set es ep t) (hf:t.fits es.size=true) (hl:t.led= !lG w) (hp:0 < es.size->t.plain=false) (hz:es.size < 4096) (hh:A.handled=none)
  (S:Addr) (hSa:S≠a) (res:Value) (c₀:Nat) (hS:s.heap.get? S=some { cls:= .type "list",data:= .seq #[] c₀ })
  (hR:∀ h' d' tk acc' c',(∀ b u,b≠S->s.heap.get? b=some u->h'.get? b=some u)->h'.get? S=some { cls:= .type "list",dict:=none,data:= .seq acc' c',slots:= #[] }->acc'.toList.Perm (es.toList.map (·.2))->R (.ok (.ret res)) { s with heap:=h',drawn:=d',toks:=tk }) :
  wpAny (model prog w) A.in1 (Builtin.List.listExtendWith (.ref S) (.ref a) res)
   (fun fin s'=>match fin with | .done f=>R (.ok f) s' | .again c'=>c'.quiet=true/\codeAny (model prog w) A c' R s') (fun e s'=>R (.error e) s') s:=by
 have hT:s.TypeIs (.ref a) "set":=⟨o,h1,h2⟩
 have lS:=Heap.lt_size hS
 unfold Builtin.List.listExtendWith
 refine wpAny_bind (wpAny_typeOf (T:="set") hT ?_)
 have e1:Builtin.List.listSameRef (.ref S) (.ref a)=false:=by simp [Builtin.List.listSameRef,hSa]
 have e2:(Value.type "set" == Value.type "list")=false:=by decide
 have e3:(Value.type "set" == Value.type "tuple")=false:=by decide
 simp only [e1,e2,e3,Bool.or_false,Bool.false_eq_true,if_false]
 refine wpAny_bind (aN6 h1 h2 h3 hf hl hp hz fun g d' J fp vs St keep lJ mf W st pv=>?_)
 have W:=W A.in1 hh
 have hSJ:S≠J:=Nat.ne_of_lt (Nat.lt_of_lt_of_le lS lJ)
 have hSf:S∉fp:=fun m=>by
  rcases mf S m with e | e
  ·exact hSa e
  ·exact absurd lS (Nat.not_lt.mpr e)
 have sz:es.size<=sizeLine:=by rw [sizeLine_eq];omega
 have fin:∀ (h:Heap) (c₁ tk:Nat),St 0 h->(∀ b u,b≠S->s.heap.get? b=some u->h.get? b=some u)->h.get? S=some { cls:= .type "list",data:= .seq #[] c₁ } ->
   codeAny (model prog w) A (.builtin "list.extend.loop" ⟨[.ref S,.ref J,res],[]⟩) R { s with heap:=h,drawn:=d',toks:=tk }:=fun h c₁ tk st' k' hS'=>by
  refine codeAny_extend_loopS W.toS sz S hSf res es.size 0 _ #[] c₁ rfl (Nat.zero_le _) st' hS' (ItemsOf.nil _) fun s' acc' c' hm hS2 hacc=>?_
  rw [Moved.eq_with hm]
  refine hR s'.heap d' s'.toks acc' c' (fun b u hb e=>hm.heap b u (fun m=>?_) (k' b u hb e)) hS2 ?_
  ·rcases List.mem_cons.mp m with e' | e'
   ·exact hb e'
   ·exact absurd (Heap.lt_size e) (by rw [List.mem_singleton.mp e'];exact Nat.not_lt.mpr lJ)
  ·have el:acc'.toList=vs:=by
    have vl:vs.length=es.size:=by rw [pv.length_eq,List.length_map,Array.length_toList]
    refine List.ext_getElem (by rw [Array.length_toList,hacc.1,vl]) fun i p q=>?_
    have hi:i < acc'.size:=by simpa using p
    have z:vs[i]?=some acc'[i]:=hacc.2 i acc'[i] (by simp [hi])
    rw [List.getElem?_eq_getElem q] at z
    rw [Array.getElem_toList]
    exact (Option.some.inj z).symm
   rw [el];exact pv
 have gS:g.get? S=some { cls:= .type "list",data:= .seq #[] c₀ }:=keep S _ hS
 have hT2:Shared.TypeIs { s with heap:=g,drawn:=d' } (.ref a) "set":=⟨o,keep a _ h1,h2⟩
 refine wpAny_bind (wpAny_holding (aQ6 hT2 ?_))
 refine wpAny_ite_split (fun _=>?_) fun _=>wpAny_pure ⟨plainId_quiet PySem.F.plain_extend_loop _,fin g c₀ _ st (fun b u _ e=>keep b u e) gS⟩
 refine wpAny_bind (wpAny_rule (wpAny_bind ?_))
 refine (show wpAny _ _ (updateSeq S (·.push .none) >>= fun _=>updateSeq S (·.pop)) _ _ _ from wpAny_bind (wpAny_updateSeq gS rfl ?_))
 have g2:=Heap.get?_update_self (Obj.mapSeq (·.push Value.none)) gS rfl
 refine wpAny_updateSeq (hz:=by seq_fits) g2 rfl ?_
 have g3:=Heap.get?_update_self (Obj.mapSeq (·.pop)) g2 rfl
 have oth:∀ b u,b≠S->g.get? b=some u->((g.update S (Obj.mapSeq (·.push Value.none))).update S (Obj.mapSeq (·.pop))).get? b=some u:=fun b u hb e=>by
  rw [Heap.get?_update_other _ _ (Ne.symm hb),Heap.get?_update_other _ _ (Ne.symm hb)];exact e
 exact wpAny_pure ⟨plainId_quiet PySem.F.plain_extend_loop _,fin _ _ _ (W.frame 0 _ _ st fun b hb u e=>oth b u (fun x=>hSf (x ▸ hb)) e) (fun b u hb e=>oth b u hb (keep b u e)) g3⟩
theorem vR {R:List Value->Shared->Prop}(h1:s.heap.get? a=some o) (h2:o.cls= .type "set") (h3:o.data= .set es ep t) (hf:t.fits es.size=true) (hl:t.led= !lG w) (hp:0 < es.size->t.plain=false) (hz:es.size < 4096) (hh:A.handled=none)
  (k:∀ (h':Heap) (d':Drawn) (tk:Nat) (acc:Array Value),(∀ b u,s.heap.get? b=some u->h'.get? b=some u)->s.heap.objs.size<=h'.objs.size->acc.toList.Perm (es.toList.map (·.2))->R acc.toList { s with heap:=h',drawn:=d',toks:=tk }) :
  wpAny (model prog w) A (collect (.ref a)) R E s:=by
 let G:Result->Shared->Prop:=fun q s'=>∃ (g:Heap) (d':Drawn) (tk:Nat) (acc:Array Value) (c:Nat),q= .ok (.ret (.ref s.heap.objs.size))/\s'={ s with heap:=g,drawn:=d',toks:=tk }/\(∀ b u,s.heap.get? b=some u->g.get? b=some u)/\g.get? s.heap.objs.size=some { cls:= .type "list",dict:=none,data:= .seq acc c,slots:= #[] }/\acc.toList.Perm (es.toList.map (·.2))
 have la:=Heap.lt_size h1
 unfold collect
 refine wpAny_bind (wpAny_runValue (codeAny_builtin entry_proto_collect' ?_))
 rw [Around.under_plainId PySem.F.plain_proto_collect _]
 refine (show wpAny _ A.in1 (newList [] >>= fun l=>again (.builtin "list.__iadd__" ⟨[l,.ref a],[]⟩)) _ _ s from wpAny_bind (wpAny_newObj_type (wpAny_pure ⟨plainId_quiet PySem.F.plain_list_iadd _,codeAny_builtin entry_list_iadd' ?_⟩)))
 rw [Around.under_plainId PySem.F.plain_list_iadd _]
 refine (show wpAny _ A.in1 (Builtin.List.listExtendWith (.ref s.heap.objs.size) (.ref a) (.ref s.heap.objs.size)) _ _ _ from wpAny_mono (yI (A:=A) (R:=G) (s:={ s with heap:=s.heap.push { cls:= .type "list",data:= .seq ([]:List Value).toArray } }) (Heap.get?_push_of_some _ h1) h2 h3 hf hl hp hz hh s.heap.objs.size (Nat.ne_of_gt la) (.ref s.heap.objs.size) 0 (Heap.get?_push_size _ rfl)
  (fun g d' tk acc c hk hS ha=>⟨g,d',tk,acc,c,rfl,rfl,fun b u e=>hk b u (Nat.ne_of_lt (Heap.lt_size e)) (Heap.get?_push_of_some _ e),hS,ha⟩)) (fun f s' x=>?_) fun e s' ⟨_,_,_,_,_,z,_⟩=>nomatch z)
 have last:∀ (g:Heap) (d':Drawn) (tk:Nat) (acc:Array Value) (c:Nat),(∀ b u,s.heap.get? b=some u->g.get? b=some u)->g.get? s.heap.objs.size=some { cls:= .type "list",dict:=none,data:= .seq acc c,slots:= #[] }->acc.toList.Perm (es.toList.map (·.2)) ->
   wpAny (model prog w) A (load s.heap.objs.size >>= fun o=>match o.data with | .seq xs _=>pure xs.toList | _=>unsupported "internal:collect") R E { s with heap:=g,drawn:=d',toks:=tk } :=
  fun g d' tk acc c hk hS ha=>wpAny_bind (wpAny_load hS (wpAny_pure (k g d' tk acc hk (Nat.le_of_lt (Heap.lt_size hS)) ha)))
 cases f with
 | done f =>
  obtain ⟨g,d',tk,acc,c,e,rfl,hk,hS,ha⟩:=x
  cases e
  exact last g d' tk acc c hk hS ha
 | again c₁ =>
  refine ⟨x.1,codeAny_mono x.2 fun q s₂ y=>?_⟩
  obtain ⟨g,d',tk,acc,c,rfl,rfl,hk,hS,ha⟩:=y
  exact last g d' tk acc c hk hS ha
end
abbrev tk (ts:List Str):List Key:=ts.map Sum.inr
section
variable {prog:Program}{w:World}{A:Around}{R:Result->Shared->Prop}{I:Addr}{fp wr:List Addr}{G:Array GenState->Array GenState->Prop}{n:Nat}{P:Nat->Value->Prop}{St:Nat->Shared->Prop}{led:Bool}
theorem aM4 (W:WalksS prog w A.in1 I fp wr G n P St) (S:Addr) (hSf:S∉fp) (ts:List Str) (hn:ts.length=n) (hval:∀ i v,P i v->∃ x t,ts[i]?=some x/\v= .str x t) (hb:∀ ds:List Key,ds.Nodup->(∀ j∈ds,j∈tk ts)->ds.length<=4000) :
  ∀ (k i:Nat) (s:Shared),n - i=k->i<=n->St i s->gN prog w s.heap S (lO (dd (tk (ts.take i)))) (dd (tk (ts.take i))).length led ->
   (∀ s',Moved (S :: wr) G s s'->gN prog w s'.heap S (lO (dd (tk ts))) (dd (tk ts)).length led->R (.ok (.ret .none)) s') ->
   codeAny (model prog w) A (.builtin "set.update.loop" ⟨[.ref S,.ref I],[]⟩) R s:=by
 have hSw:S∉wr:=fun h=>hSf (W.sub _ h)
 have hsub:∀ b∈wr,b∈S :: wr:=fun b hb=>List.mem_cons_of_mem _ hb
 intro k
 induction k with
 | zero =>
  intro i s hk hi hst hS hR
  obtain rfl:i=n:=by omega
  refine codeAny_builtin F.entry_set_update_loop ?_
  rw [Around.under_plainId F.plain_set_update_loop _]
  refine (show wpAny _ A.in1 (pyNext (.ref I) >>= _) _ _ s from wpAny_bind (W.done s _ _ hst fun s' hm=>?_))
  rw [<- hn,List.take_length] at hS
  refine (show wpAny _ A.in1 (ret Value.none) _ _ s' from wpAny_pure (hR s' (hm.mono hsub) (hS.keep fun o e=>hm.heap S _ hSw e)))
 | succ k ih =>
  intro i s hk hi hst hS hR
  have hlt:i < n:=by omega
  refine codeAny_builtin F.entry_set_update_loop ?_
  rw [Around.under_plainId F.plain_set_update_loop _]
  refine (show wpAny _ A.in1 (pyNext (.ref I) >>= _) _ _ s from wpAny_bind (W.item i s _ _ hlt hst fun v s' hP hst' hm=>?_))
  obtain ⟨x,t,hx,rfl⟩:=hval i v hP
  have his:kW (Sum.inr x) (.str x t)=true:=rS x t
  have hS':=hS.keep (h':=s'.heap) fun o e=>hm.heap S _ hSw e
  refine (show wpAny _ A.in1 (holding [Value.str x t] (setAdd S (.str x t)) >>= _) _ _ s' from wpAny_bind (wpAny_holding ?_))
  unfold setAdd
  refine wpAny_holding (wpAny_bind ((bH prog w).pyHash (k:=Sum.inr x) his ?_))
  have hroom:(dd (tk (ts.take i))).length+1 < scanBound:=by
   have:=hb (dd (tk (ts.take i))) (aS8 _) fun j hj=>by
    obtain ⟨x,m,e⟩:=List.mem_map.mp ((zF _ _).mp hj)
    exact List.mem_map.mpr ⟨x,List.mem_of_mem_take m,e⟩
   unfold scanBound
   omega
  refine aQ7 (s:={ s' with toks:=s'.toks+1 }) his rfl rfl hS' hroom fun h' hsb hS2=>?_
  have hSi:gN prog w h' S (lO (dd (tk (ts.take (i+1))))) (dd (tk (ts.take (i+1)))).length led:=by
   have e:tk (ts.take (i+1))=tk (ts.take i)++[Sum.inr x]:=by rw [List.take_succ,hx];simp [tk]
   rw [e,bA6]
   have e1:(fun j=>lO (dd (tk (ts.take i))) j || decide (j=Sum.inr x))=lO (ddS (dd (tk (ts.take i))) (Sum.inr x)):=funext fun j=>by
    rw [Bool.eq_iff_iff,Bool.or_eq_true,decide_eq_true_eq,iY,iY]
    exact aD1.symm
   have e2:(if lO (dd (tk (ts.take i))) (Sum.inr x)=true then (dd (tk (ts.take i))).length else (dd (tk (ts.take i))).length+1)=(ddS (dd (tk (ts.take i))) (Sum.inr x)).length:=by
    unfold ddS
    by_cases c:lO (dd (tk (ts.take i))) (Sum.inr x)=true
    ·rw [if_pos c,if_pos c]
    ·rw [if_neg c,if_neg c,List.length_append,List.length_singleton]
   rw [<- e1, <- e2]
   exact hS2
  refine wpAny_pure ⟨plainId_quiet F.plain_set_update_loop _,ih (i+1) _ (by omega) hlt (W.frame _ s' _ _ hst' (Nat.le_succ _) fun b hb o e=>?_) hSi fun s'' hm'' hS''=>?_⟩
  ·rw [hsb.2 b (fun h:b=S=>hSf (by rw [<- h];exact hb))];exact e
  ·refine hR s'' (Moved.trans W.gtrans ((hm.mono hsub).then_heap (Nat.le_succ _) fun b o hb e=>?_) hm'') hS''
   rw [hsb.2 b (fun h:b=S=>hb (by rw [h];exact List.mem_cons_self))];exact e
end
section
variable {prog:Program}{w:World}{A:Around}{E:Value->Shared->Prop}{s:Shared}
theorem aX4 (v:Value) {R:Value->Shared->Prop}(h:R (.ref s.heap.objs.size) { s with heap:=s.heap.push (fC (!lG w)) }) :
  codeAny (model prog w) A (.call (.builtin "set.__new__") ⟨[.type "set",v],[]⟩) (wants R E) s:=by
 refine codeAny_of_tree (show wpAny _ A.in1 (checkBuiltinCall "set.__new__" ⟨[.type "set",v],[]⟩ >>= fun _=>again (.builtin "set.__new__" ⟨[.type "set",v],[]⟩)) _ _ s from wpAny_bind (wpAny_of_eq (F.newCall_set_1 v) (wpAny_pure ⟨plainId_quiet F.plain_set_new _,codeAny_builtin F.entry_set_new ?_⟩)))
 rw [Around.under_plainId F.plain_set_new _]
 have z:=sub_set_self
 obtain ⟨x1,x2,x3,x4,x5⟩:=s
 unfold Builtin.«set.__new__» Builtin.Frozenset.newClass
 dsimp only
 wp_walk
 refine wpAny_askSetting (wpAny_pure ?_)
 unfold newObj
 exact wpAny_bind (wpAny_alloc (wpAny_pure (wpAny_pure h)))
theorem zQ {l:Addr}{items:Array Value}{ts:List Str}{Q:Value->Shared->Prop}(hh:A.handled=none) (hl:s.heap.IsList l items) (hk:ts.length=items.size) (hi:∀ (i:Nat) (v:Value),items[i]?=some v->∃ x t,ts[i]?=some x/\v= .str x t) (hb:∀ ds:List Key,ds.Nodup->(∀ j∈ds,j∈tk ts)->ds.length<=4000)
  (q:∀ (h':Heap) (tk':Nat),gN prog w h' s.heap.objs.size (lO (dd (tk ts))) (dd (tk ts)).length (!lG w)->(∀ b o,s.heap.get? b=some o->h'.get? b=some o)->Q (.ref s.heap.objs.size) { s with heap:=h',toks:=tk' }) :
  wpAny (model prog w) A (call (.type "set") [.ref l]) Q E s:=by
 have lS:l < s.heap.objs.size:=by obtain ⟨o,e,_⟩:=hl;exact Heap.lt_size e
 refine uZ (Q₁:=fun obj t=>obj= .ref s.heap.objs.size/\t={ s with heap:=s.heap.push (fC (!lG w)) }) F.called_set (F.typeCall_set_1 _) (aX4 _ ⟨rfl,rfl⟩) ?_
 rintro _ _ ⟨rfl,rfl⟩
 have gS:(s.heap.push (fC (!lG w))).get? s.heap.objs.size=some (fC (!lG w)):=Heap.get?_push_size _ rfl
 have tS:Shared.TypeIs { s with heap:=s.heap.push (fC (!lG w)) } (.ref s.heap.objs.size) "set":=⟨_,gS,rfl⟩
 have tl:(s.heap.push (fC (!lG w))).IsList l items:=hl.at fun o e=>Heap.get?_push_of_some _ e
 refine ⟨tS,codeAny_call_builtin F.called_set.init.plain F.entry_set_init (check_set_init_1 tS ?_)⟩
 obtain ⟨⟨oc,od,oda,osl⟩,ho,hc,n0,hd⟩:=id tl
 dsimp only at hc hd
 subst hc hd
 have f1:=F.sub_list_set;have f2:=F.sub_list_frozenset
 have f3:(Value.type "list" == Value.type "dict")=false:=by decide
 have T1:Heap.IsList (Shared.heap { s with heap:=s.heap.push (fC (!lG w)) }) l items:=tl
 unfold Builtin.«set.__init__» noKeywords Builtin.Frozenset.updateFrom
 wp_walk using wpAny_pyIter_list T1
 have z1:(s.heap.push (fC (!lG w))).objs.size=s.heap.objs.size+1:=Heap.size_push ..
 have hne:l≠(s.heap.push (fC (!lG w))).objs.size:=by rw [z1];exact Nat.ne_of_lt (Nat.lt_succ_of_lt lS)
 have hSf:s.heap.objs.size∉[(s.heap.push (fC (!lG w))).objs.size,l]:=by
  rw [z1]
  simp only [List.mem_cons,List.not_mem_nil,or_false,not_or]
  exact ⟨Nat.ne_of_lt (Nat.lt_succ_self _),Nat.ne_of_gt lS⟩
 have gS2:((s.heap.push (fC (!lG w))).push { cls:= .type "list_iterator",data:= .fields #[.ref l,.int 0 0] }).get? s.heap.objs.size=some (fC (!lG w)):=Heap.get?_push_of_some _ gS
 refine aM4 (led:= !lG w) (A:=A.in1.in1) ((Walks.list (show A.in1.in1.in1.handled=none from hh) _ l hne items).toS) s.heap.objs.size hSf ts hk hi hb (items.size - 0) 0 _ rfl (Nat.zero_le _) ⟨⟨_,Heap.get?_push_size _ rfl,rfl,rfl⟩,tl.at fun o e=>Heap.get?_push_of_some _ e⟩
  ⟨_,_,_,_,⟨gS2,⟨rfl,rfl,rfl⟩,rfl⟩,⟨fun e he=>absurd he (by simp),fun k=>⟨fun z=>absurd z (by simp [dd,lO,tk]),fun ⟨e,he,_⟩=>absurd he (by simp)⟩⟩,⟨by decide,rfl,rfl⟩,rfl,fun z=>absurd z (by simp [dd,tk])⟩ fun s' hm hS'=>?_
 obtain ⟨h',g',d',tk',os'⟩:=s'
 obtain rfl:g'=s.gens:=hm.gens
 obtain rfl:d'=s.drawn:=hm.drawn
 obtain rfl:os'=s.os:=hm.os
 refine wpAny_pure (wpAny_pure ⟨rfl,q h' tk' hS' fun b o e=>hm.heap b o ?_ (Heap.get?_push_of_some _ (Heap.get?_push_of_some _ e))⟩)
 have bl:=Heap.lt_size e
 rw [z1]
 simp only [List.mem_cons,List.not_mem_nil,or_false,not_or]
 exact ⟨Nat.ne_of_lt bl,Nat.ne_of_lt (Nat.lt_succ_of_lt bl)⟩
end
def aD4 (P:Program) (w:World) (a:Addr) (ts:List Str):HO:= .ext fun h=>gN P w h a (lO (dd (tk ts))) (dd (tk ts)).length (!lG w)
theorem lW:∀ {ts:List Str}{us:List Value},bP (ts.map V.str) us->∀ (i:Nat) (v:Value),us[i]?=some v->∃ x t,ts[i]?=some x/\v= .str x t
 | [],_,h,i,v,e=>by cases h;simp at e
 | x :: r,_,h,i,v,e=>by
  rw [List.map_cons] at h
  cases h with
  | cons h1 h2 =>
   cases i with
   | zero =>
    simp only [List.getElem?_cons_zero,Option.some.injEq] at e
    subst e
    obtain ⟨t,rfl⟩:=h1
    exact ⟨x,t,rfl,rfl⟩
   | succ i=>exact lW h2 i v (by simpa using e)
theorem aL6 {X:Cx}(P:Program) (w:World) {k:Nat}(hr:eF k X.A) (hP:X.prog=P:=by rfl) (hw:X.w=w:=by rfl):iK X (.type "set") (fun xs H Q=>∃ (p:Addr) (ts:List Str),xs=[.ref p]/\bN X.K H p (ts.map V.str)/\(∀ ds:List Key,ds.Nodup->(∀ j∈ds,j∈tk ts)->ds.length<=4000)/\∀ a,H a=none->Q (.ref a) (aW H a (aD4 P w a ts))):=by
 subst hP hw
 intro pins s σ H xs us Q I r h
 obtain ⟨p,ts,rfl,hp,hl,q⟩:=h
 obtain ⟨u,rfl,ru⟩:=kT r
 cases ru
 obtain ⟨its,rv,pl,_⟩:=I.list hp
 have ln:=rv.length
 rw [List.length_map] at ln
 refine zQ (items:=its.toArray) (ts:=ts) hr.hd pl.isList (by rw [List.size_toArray];exact ln) (fun i v e=>lW rv i v (by simpa using e)) hl fun h' tk hS kp=>?_
 refine ⟨.ref s.heap.objs.size,_,I.laid (t':=tk) (o:=aD4 X.prog X.w s.heap.objs.size ts) kp (Nat.le_refl _) ?_,rfl,q _ (I.hok.fresh (Nat.le_refl _))⟩
 refine ⟨hS,?_,fun h1 h2 F k2=>F.keep k2⟩
 obtain ⟨o,_,_,_,⟨ho,_⟩,_⟩:=hS
 exact ⟨o,ho⟩
def leS (a b:Str):Prop:=a.cps.toList<=b.cps.toList
theorem bQ6 {a b:Str}(h:ltCps b.cps.toList a.cps.toList=false):leS a b:=by
 rw [ltCps_eq] at h
 exact List.not_lt.mp (of_decide_eq_false h)
theorem aG7 {a b c:Str}(h:leS a b) (k:leS b c):leS a c:=List.le_trans h k
theorem uN {a b:Str}(h:leS a b) (k:leS b a):a=b:=by
 have e:a.cps.toList=b.cps.toList:=List.le_antisymm h k
 cases a
 cases b
 exact congrArg Str.mk (Array.toList_inj.mp e)
theorem rT:∀ (p:Str) (l:List Str),risingS p l=true->(p :: l).Pairwise leS
 | p,[],_=>by simp
 | p,x :: r,h=>by
  have h:(!ltCps x.cps.toList p.cps.toList && risingS x r)=true:=h
  rw [Bool.and_eq_true] at h
  have ih:=rT x r h.2
  have px:leS p x:=bQ6 (by simpa using h.1)
  refine List.pairwise_cons.mpr ⟨fun y hy=>?_,ih⟩
  rcases List.mem_cons.mp hy with e | e
  ·rw [e];exact px
  ·exact aG7 px ((List.pairwise_cons.mp ih).1 y e)
theorem sL {l:List Str}(h:sortedS l=true):l.Pairwise leS:=by
 cases l with
 | nil=>exact List.Pairwise.nil
 | cons p r=>exact rT p r h
theorem nE {α: Type} [DecidableEq α]:∀ {l m:List α},l.Nodup->(∀ x∈l,x∈m)->m.length=l.length->l.Perm m
 | [],m,_,_,hl=>by
  have:m=[]:=List.length_eq_zero_iff.mp hl
  rw [this]
 | x :: r,m,nd,hs,hl=>by
  have hx:=hs x List.mem_cons_self
  have nd:=List.nodup_cons.mp nd
  refine (List.Perm.cons x (nE (m:=m.erase x) nd.2 (fun y hy=>?_) ?_)).trans (List.perm_cons_erase hx).symm
  ·refine (List.mem_erase_of_ne fun e=>nd.1 (by rw [<- e];exact hy)).mpr (hs y (List.mem_cons_of_mem _ hy))
  ·rw [List.length_erase_of_mem hx,hl]
   simp
theorem wA {l m:List Str}(nl:l.Nodup) (nm:m.Nodup) (h:∀ x,x∈l↔x∈m) (sl:sortedS l=true) (sm:sortedS m=true):l=m :=
 List.Perm.eq_of_pairwise (le:=leS) (fun _ _ _ _ x y=>uN x y) (sL sl) (sL sm) ((List.perm_ext_iff_of_nodup nl nm).mpr fun x=>h x)
theorem aH0 {prog:Program}{w:World}{es:List (Int×Value)}{ts:List Str}(h4:ElemsOf (bH prog w) es) (h5:∀ j,lO (dd (tk ts)) j=true↔∃ e∈es,(bH prog w).is j e.2=true) (hn:es.length=(dd (tk ts)).length) :
  StrsAre (es.map (·.2)) ((es.map (·.2)).map strOf)/\((es.map (·.2)).map strOf).Nodup/\∀ x,x∈(es.map (·.2)).map strOf↔x∈ts:=by
 have inr:∀ j,j∈dd (tk ts)->∃ x,x∈ts/\j=Sum.inr x:=fun j hj=>by
  obtain ⟨x,m,e⟩:=List.mem_map.mp ((zF _ _).mp hj)
  exact ⟨x,m,e.symm⟩
 have each:∀ e∈es,∃ x t,x∈ts/\e.2= .str x t:=fun e he=>by
  obtain ⟨⟨j,hj,_⟩,_⟩:=h4 e he
  obtain ⟨x,m,rfl⟩:=inr j (iY.mp ((h5 j).mpr ⟨e,he,hj⟩))
  rcases cO (show kW (Sum.inr x) e.2=true from hj) with ⟨i,t,z,_⟩ | ⟨y,t,z,q⟩
  ·cases z
  ·cases z;exact ⟨x,t,m,q⟩
 have A:StrsAre (es.map (·.2)) ((es.map (·.2)).map strOf):=strsAre_map _ fun v hv=>by
  obtain ⟨e,he,rfl⟩:=List.mem_map.mp hv
  obtain ⟨x,t,_,q⟩:=each e he
  exact ⟨x,t,q⟩
 have cover:∀ j∈dd (tk ts),j∈((es.map (·.2)).map strOf).map (Sum.inr:Str->Key):=fun j hj=>by
  obtain ⟨e,he,hk⟩:=(h5 j).mp (iY.mpr hj)
  obtain ⟨x,m,rfl⟩:=inr j hj
  rcases cO (show kW (Sum.inr x) e.2=true from hk) with ⟨i,t,z,_⟩ | ⟨y,t,z,q⟩
  ·cases z
  ·cases z
   refine List.mem_map.mpr ⟨x,List.mem_map.mpr ⟨e.2,List.mem_map.mpr ⟨e,he,rfl⟩,?_⟩,rfl⟩
   rw [q];rfl
 have pm:=nE (aS8 (tk ts)) cover (by rw [List.length_map,List.length_map,List.length_map];exact hn)
 have nd:=pm.nodup (aS8 (tk ts))
 refine ⟨A,?_,fun x=>?_⟩
 ·rw [List.nodup_iff_pairwise_ne,List.pairwise_map] at nd
  rw [List.nodup_iff_pairwise_ne]
  exact nd.imp fun z q=>z (by rw [q])
 ·constructor
  ·intro hx
   obtain ⟨v,hv,rfl⟩:=List.mem_map.mp hx
   obtain ⟨e,he,rfl⟩:=List.mem_map.mp hv
   obtain ⟨y,t,m,q⟩:=each e he
   rw [q];exact m
  ·intro hx
   have:(Sum.inr x:Key)∈((es.map (·.2)).map strOf).map (Sum.inr:Str->Key):=cover _ ((zF _ _).mpr (List.mem_map.mpr ⟨x,hx,rfl⟩))
   obtain ⟨y,hy,e⟩:=List.mem_map.mp this
   cases e;exact hy
theorem mC:∀ {vs:List Value}{ss:List Str},StrsAre vs ss->bP (ss.map V.str) vs
 | [],[],_=> .nil
 | v :: vs,x :: ss,h=>by
  have e:=h.all v List.mem_cons_self
  have q:=h.strs
  rw [List.map_cons] at q
  obtain ⟨y,t,rfl⟩:=e
  injection q with q1 q2
  cases q1
  refine .cons ⟨t,rfl⟩ (mC ?_)
  have:=strsAre_map vs fun v hv=>h.all v (List.mem_cons_of_mem _ hv)
  rw [q2] at this
  exact this
 | [],_ :: _,h=>by have:=h.strs;simp at this
 | _ :: _,[],h=>by have:=h.strs;simp at this
section
variable {X:Cx}{k:Nat}
theorem rR {pins:List (Addr×Obj)}{σ: St}{H:Hp}{s:Shared}{Q:VK}{h':Heap}{d':Drawn}{t:Nat}{vs:List Value}{ss:List Str}(I:bG X pins σ H s) (hS:StrsAre vs ss) (h64:vs.length < 64) (keep:∀ b o,s.heap.get? b=some o->h'.get? b=some o) (le:s.heap.objs.size<=h'.objs.size)
  (q:∀ ts':List Str,ts'.Perm ss->sortedS ts'=true->∀ l,H l=none->Q (.ref l) (aW H l (.lst (ts'.map V.str)))) :
  wpAny (model X.prog X.w) X.A.in1 (newList vs >>= fun l=>holding [l] (call (.builtin "list.sort") [l] []) >>= fun _=>ret l) (fun fin s'=>∃ v,fin= .done (.ret v)/\EP X pins σ Q v s') X.xe { s with heap:=h',drawn:=d',toks:=t }:=by
 refine wpAny_bind (wpAny_newList ?_ (by rw [sizeLine_eq];omega))
 have hoL:(h'.push (seqObj "list" vs.toArray 0)).get? h'.objs.size=some (seqObj "list" vs.toArray 0):=Heap.get?_push_size _ rfl
 refine wpAny_bind (wpAny_holding (wpAny_call_entry slot_list_sort ⟨_,hoL,rfl⟩ entry_list_sort (list_sort_treeK strKind_oneLt hoL hS.keysOf (fun v₁ v₂ eX e=>keyKind_strs (by rw [<- e];exact hS)) h64 fun st' hp hs=>⟨_,rfl,?_⟩) (args_list_sort _)))
 obtain ⟨ss',a1,a2,a3⟩:=sorted_out_str hS hp hs
 refine wpAny_pure ⟨_,rfl,?_⟩
 obtain ⟨e,he⟩:=sortedHeap_at (h:=h'.push (seqObj "list" vs.toArray 0)) (vs:=vs) (out:=(arrOf st').map (·.2)) hoL
 refine ⟨.ref h'.objs.size,_,(I.draw d').laid (t':=t) (o:= .lst (ss'.map V.str)) (fun b o z=>?_) le ?_,rfl,q ss' a2 a3 _ (I.hok.fresh le)⟩
 ·have z':=keep b o z
  have hlt:=Heap.lt_size z'
  rw [sortedHeap_old (Nat.ne_of_lt hlt) (by rw [size_push'];exact Nat.lt_succ_of_lt hlt)]
  exact Heap.get?_push_of_some _ z'
 ·refine ⟨?_,((arrOf st').map (·.2)).toList,e,mC a1,by rw [Array.toArray_toList];exact he⟩
  rw [List.length_map,a2.length_eq, <- hS.strs,List.length_map]
  exact Nat.le_of_lt (bD (by omega))
theorem uW (P:Program) (w:World) (hr:eF k X.A) (hP:X.prog=P:=by rfl) (hw:X.w=w:=by rfl):iK X (.builtin "sorted") (fun xs H Q=>∃ (a:Addr) (ts:List Str),xs=[.ref a]/\H a=some (aD4 P w a ts)/\(∀ ds:List Str,ds.Nodup->(∀ x,x∈ds↔x∈ts)->ds.length < 64) /\
  ∀ ts':List Str,ts'.Nodup->(∀ x,x∈ts'↔x∈ts)->sortedS ts'=true->∀ l,H l=none->Q (.ref l) (aW H l (.lst (ts'.map V.str)))):=by
 subst hP hw
 intro pins s σ H xs us Q I r h
 obtain ⟨a,ts,rfl,ha,h64,q⟩:=h
 obtain ⟨u,rfl,ru⟩:=kT r
 cases ru
 obtain ⟨⟨o,es,ep,t,⟨x1,x2,x3⟩,⟨x4,x5⟩,⟨x6,x7,x8⟩,x9,x10⟩,_,_⟩:=(show dL X.prog X.w H s.heap a (aD4 X.prog X.w a ts) from I.hok a _ ha)
 obtain ⟨A,nd,mm⟩:=aH0 x4 x5 (by rw [Array.length_toList];exact x8)
 refine Calls.call_function_entry kind_sorted plain_sorted entry_sorted (args_sorted1 _) ?_
 unfold Builtin.«sorted»
 refine wpAny_bind (m:=checkCount "sorted" 1 1 _) (wpAny_pure ?_)
 refine wpAny_bind (vR (A:=X.A.in1) x1 x2.1 x3 x7 x9 (by rw [x8];exact x10) x6 hr.hd fun h' d' tk acc keep le pm=>?_)
 have hS:StrsAre acc.toList (acc.toList.map strOf):=strsAre_map _ fun v hv=>A.all v (pm.mem_iff.mp hv)
 have pS:=pm.map strOf
 have ln:acc.toList.length=((es.toList.map (·.2)).map strOf).length:=by rw [<- pS.length_eq,List.length_map]
 refine rR I hS (by rw [ln];exact h64 _ nd mm) keep le fun ts' p st l hl=>q ts' ((p.trans pS).symm.nodup nd) (fun x=>((p.trans pS).mem_iff).trans (mm x)) st l hl
theorem xC (hr:eF k X.A):iK X (.builtin "sorted") (fun xs H Q=>∃ (d:Addr) (kvs:List (Key×V)) (ts:List Str),xs=[.ref d]/\H d=some (.dK kvs)/\kvs.map (fun e=>kV e.1)=ts.map V.str/\kvs.length < 64 /\
  ∀ ts':List Str,ts'.Perm ts->sortedS ts'=true->∀ l,H l=none->Q (.ref l) (aW H l (.lst (ts'.map V.str)))):=by
 intro pins s σ H xs us Q I r h
 obtain ⟨d,kvs,ts,rfl,hd,hk,hz,q⟩:=h
 obtain ⟨u,rfl,ru⟩:=kT r
 cases ru
 obtain ⟨z,lo,vs,rel,o,es,ep,h1,h2,h3,h4,h5,h6⟩:=aE4 I.hok hd
 have hl:kvs.length=vs.length:=Paired.length rel
 have sl:vs.length<=sizeLine:=by rw [<- hl];exact z
 refine Calls.call_function_entry kind_sorted plain_sorted entry_sorted (args_sorted1 _) ?_
 unfold Builtin.«sorted»
 refine wpAny_bind (m:=checkCount "sorted" 1 1 _) (wpAny_pure ?_)
 refine wpAny_bind (wQ (A:=X.A.in1) (PySem.W.kdl_dict (knd:=bH X.prog X.w) (kvs:=vs) (ep:=ep) lo) hr.hd ⟨o,es,h1,h2,h3,h4,h5,h6⟩ sl fun h' tk acc hkeep le hacc=>?_)
 have al:acc.toList.length=vs.length:=by rw [Array.length_toList];exact hacc.1
 have hV:bP (ts.map V.str) acc.toList:=by
  refine aV7 (by rw [al, <- hk,List.length_map,hl]) fun j u e=>?_
  obtain ⟨k,x,e1,e2⟩:=hacc.2 j u (by rw [<- Array.getElem?_toList];exact e)
  have hj:j < kvs.length:=by rw [hl];exact (List.getElem?_eq_some_iff.mp e1).1
  obtain ⟨u',e3,_⟩:=aP9 (i:=j) (k:=kvs[j].1) (v:=kvs[j].2) rel (by simp [hj])
  rw [e1] at e3
  cases e3
  refine ⟨kV kvs[j].1,?_,bH6 e2⟩
  rw [<- hk,List.getElem?_map,List.getElem?_eq_getElem hj]
  rfl
 have hS:StrsAre acc.toList ts:=by
  have a1:=strsAre_map acc.toList fun v hv=>by
   obtain ⟨i,hi,rfl⟩:=List.getElem_of_mem hv
   obtain ⟨x,t,_,q⟩:=lW hV i _ (List.getElem?_eq_getElem hi)
   exact ⟨x,t,q⟩
  have a2:acc.toList.map strOf=ts:=by
   refine List.ext_getElem (by rw [List.length_map];have:=hV.length;rw [List.length_map] at this;exact this.symm) fun i p q'=>?_
   have hi:i < acc.toList.length:=by simpa using p
   obtain ⟨x,t,e,q⟩:=lW hV i _ (List.getElem?_eq_getElem hi)
   rw [List.getElem_map,q]
   rw [List.getElem?_eq_getElem q'] at e
   exact (Option.some.inj e).symm
  rw [a2] at a1
  exact a1
 have:=rR (d':=s.drawn) (t:=tk) I hS (by rw [al, <- hl];exact hz) hkeep le q
 exact this
end
def bY8 (td ty tx:TE):TE:=fun σ H Q=>td σ H fun x H1=>∃ a,x= .ref a/\IsD H1 a/\ty σ H1 fun y H2=>tx σ H2 fun z H3=>∃ kvs k,H3 a=some (.dK kvs)/\y=kV k/\kvs.length < sizeLine /\
 (∀ v,cM kvs k=some v->Q v H3)/\(cM kvs k=none->Q z (aW H3 a (.dK (dB kvs k z))))
theorem aR2 {X:Cx}{pins:List (Addr×Obj)}{σ: St}{H:Hp}{s:Shared}{a:Addr}{kvs:List (Key×V)}{k:Key}{x:V}{u r:Value}{A:Around}{E:Value->Shared->Prop}{Q:VK}(I:bG X pins σ H s) (e:H a=some (.dK kvs)) (ry:bX (kV k) u) (rx:bX x r) (hz:kvs.length < sizeLine)
  (h1:∀ v,cM kvs k=some v->Q v H) (h2:cM kvs k=none->Q x (aW H a (.dK (dB kvs k x)))):wpAny (model X.prog X.w) A (call (.builtin "dict.setdefault") [.ref a,u,r]) (EP X pins σ Q) E s:=by
 obtain ⟨z,hd,vs,rel,dd⟩:=aE4 I.hok e
 refine call_meetsIn PySem.F.slot_dict_setdefault dd.typeIs PySem.F.entry_dict_setdefault (PySem.F.args_dict_setdefault_3 _ _ _) (kt_meets_setdefault (bH X.prog X.w) a (qL ry) hd r) ⟨vs,dd,by rw [<- rel.length];exact z,fun v' hv=>?_,fun hn h' dd' hs=>?_⟩
 ·cases l:cM kvs k with
  | none =>
   have q:valueAt vs k=none:=jT.none_of (by rw [<- l];exact rel.val k)
   rw [q] at hv;cases hv
  | some v =>
   obtain ⟨w',hw,rw'⟩:=jT.some_of (v:=v) (o:=valueAt vs k) (by rw [<- l];exact rel.val k)
   rw [hw] at hv
   cases hv
   exact ⟨v,H,I.tok _,rw',h1 v l⟩
 ·cases l:cM kvs k with
  | some v =>
   obtain ⟨w',hw,rw'⟩:=jT.some_of (v:=v) (o:=valueAt vs k) (by rw [<- l];exact rel.val k)
   rw [hn] at hw;cases hw
  | none =>
   have hl:(dB kvs k x).length<=sizeLine:=by have:=cK kvs k x;omega
   have he:∃ q,h'.get? a=some q:=let ⟨q,_,_,hq,_⟩:=dd';⟨q,hq⟩
   exact ⟨x,_,oF I (by rw [e];exact True.intro) hs he (zJ hl hd (rel.put k rx) dd'),rx,h2 l⟩
theorem bG6 {X:Cx}{o e f:Expr}{apos cpos:Pos}{td ty tx:TE}(ho:PE X o td) (he:PE X e ty) (hf:PE X f tx) (m:M2 X o "setdefault" apos e f cpos):PE X (.Call (.Attribute o "setdefault" apos) [e,f] [] cpos) (bY8 td ty tx):=by
 intro pins s σ H Q I h
 refine wpAny_Call_method m.base m.few m.line PySem.F.plainAttrs_dict PySem.F.slot_dict_setdefault PySem.F.type_dict_setdefault (dQ (ho pins s σ H _ I h) fun u s1 ⟨x,H1,I1,rx,a,ex,d,q1⟩=>?_)
 subst ex
 obtain rfl:u=Value.ref a:=rx
 obtain ⟨t1,t2,_⟩:=aR9 I1 d
 refine ⟨t1,t2,?_⟩
 rw [m.trees]
 refine Calls.callWith_builtin rfl (Calls.evalArgs_plain (Calls.spliced_cons (dQ (he pins s1 σ H1 _ I1 q1) fun iv s2 ⟨y,H2,I2,ry,q2⟩=>Calls.spliced_cons (dQ (hf pins s2 σ H2 _ I2 q2) fun fv s3 ⟨z,H3,I3,rz,kvs,k,ea,ey,hz,q3,q4⟩=>Calls.spliced_nil ?_))))
 subst ey
 exact aR2 I3 ea ry rz hz q3 q4
end L2
namespace PySem
namespace F
end F
end PySem
namespace PySem
section
variable {prog:Program}{w:World}{A:Around}{E:Value->Shared->Prop}{s:Shared}
end
end PySem
namespace L2
open PySem PySem.Spec PyProof.Rows
section
variable {prog:Program}{w:World}{A:Around}{E:Value->Shared->Prop}{Q:Value->Shared->Prop}{s:Shared}{it p:Addr}{items:Array Value}
end
open PySem
theorem gJ {H:Hp}{l:Addr}(h:H l=none) (o:HO):∃ H2,aW H l o=H2/\aZ H H2/\H2 l=some o:=⟨_,rfl,aB h o,aE⟩
theorem iT:1<=sizeLine:=by decide
theorem bM:2<=sizeLine:=by decide
end L2
namespace Mine
open PySem L2
def gI (a b:Int):Int:=(Nat.gcd a.toNat b.toNat:Nat)
def eS (a b:Int):Int:=a / gI a b
def dU (a b:Int):Int:=b / gI a b
theorem qB {a b:Int}(hb:1<=b):0 < gI a b:=by
 have:0 < Nat.gcd a.toNat b.toNat:=Nat.gcd_pos_of_pos_right _ (by omega);unfold gI;omega
theorem bV2 {a b c:Int}(ha:0<=a) (hb:0<=b) (hc:0<=c):gI (c * a) (c * b)=c * gI a b:=by
 obtain ⟨x,rfl⟩:=Int.eq_ofNat_of_zero_le ha;obtain ⟨y,rfl⟩:=Int.eq_ofNat_of_zero_le hb;obtain ⟨z,rfl⟩:=Int.eq_ofNat_of_zero_le hc;unfold gI;rw [<- Int.natCast_mul, <- Int.natCast_mul,Int.toNat_natCast,Int.toNat_natCast,Int.toNat_natCast,Int.toNat_natCast,Nat.gcd_mul_left,Int.natCast_mul]
theorem aA2 {a b c:Int}(ha:0<=a) (hb:1<=b) (hc:1<=c):eS (c * a) (c * b)=eS a b/\dU (c * a) (c * b)=dU a b:=by
 unfold eS dU;rw [bV2 ha (by omega) (by omega),Int.mul_ediv_mul_of_pos _ _ (by omega),Int.mul_ediv_mul_of_pos _ _ (by omega)];exact ⟨rfl,rfl⟩
theorem yM {a b c d:Int}(ha:0<=a) (hb:1<=b) (hc:0<=c) (hd:1<=d) (h:a * d=c * b):eS a b=eS c d/\dU a b=dU c d:=by
 have e1:=aA2 ha hb hd;have e2:=aA2 hc hd hb;have q1:d * a=b * c:=by rw [Int.mul_comm d a,h,Int.mul_comm]
 have q2:d * b=b * d:=Int.mul_comm _ _;rw [q1,q2] at e1;exact ⟨e1.1.symm.trans e2.1,e1.2.symm.trans e2.2⟩
theorem bI4 {a b:Int}(ha:0<=a):gI a b ∣ a:=by
 obtain ⟨x,rfl⟩:=Int.eq_ofNat_of_zero_le ha;unfold gI;rw [Int.toNat_natCast];exact Int.natCast_dvd_natCast.mpr (Nat.gcd_dvd_left _ _)
theorem aB1 {a b:Int}(hb:0<=b):gI a b ∣ b:=by
 obtain ⟨x,rfl⟩:=Int.eq_ofNat_of_zero_le hb;unfold gI;rw [Int.toNat_natCast];exact Int.natCast_dvd_natCast.mpr (Nat.gcd_dvd_right _ _)
theorem mQ {a b:Int}(ha:0<=a) (hb:1<=b):eS a b * b=a * dU a b:=by
 have h1:=Int.ediv_mul_cancel (bI4 (b:=b) ha);have h2:=Int.ediv_mul_cancel (aB1 (a:=a) (b:=b) (by omega));unfold eS dU;generalize a / gI a b=x at h1 ⊢;generalize b / gI a b=y at h2 ⊢;rw [<- h1, <- h2];generalize gI (x * gI a b) (y * gI a b)=g
 grind
theorem fZ {a b:Int}(ha:0<=a):0<=eS a b:=Int.ediv_nonneg ha (by unfold gI;omega)
theorem jB {a b:Int}(hb:1<=b):1<=dU a b:=by
 have h2:=Int.ediv_mul_cancel (aB1 (a:=a) (b:=b) (by omega));have g:=qB (a:=a) hb;unfold dU;generalize b / gI a b=y at h2 ⊢
 by_cases z:0 < y
 ·omega
 ·have:=Int.mul_nonneg (show 0<= -y by omega) (Int.le_of_lt g);rw [Int.neg_mul] at this;omega
theorem aC0 {a b:Int}(ha:0<=a) (hb:1<=b):eS a b<=a:=Int.ediv_le_self _ ha
theorem aA8 {a b:Int}(hb:1<=b):dU a b<=b:=Int.ediv_le_self _ (by omega)
theorem bF1 {a b:Int}(ha:0<=a) (hb:1<=b):eS (eS a b) (dU a b)=eS a b/\dU (eS a b) (dU a b)=dU a b:=by
 have:=yM (fZ (b:=b) ha) (jB (a:=a) hb) ha hb (by rw [mQ ha hb]);exact this
def shN (p q:Int) (n:Nat):Int:=(q - p) * p ^ n
def nP (p q:Int) (n:Nat):Int:=(q+p) * q ^ n
def uS (p q:Int) (n:Nat):Int:=q * p ^ n
def tN (p q k:Int):Int:=if 0<=k then uS p q k.toNat else nP p q (1 - k).toNat - uS p q (1 - k).toNat
def tD (p q k:Int):Int:=if 0<=k then nP p q k.toNat else nP p q (1 - k).toNat
theorem yX {p q:Int}(hp:0<=p) (h:p<=q):∀ n:Nat,p ^ n<=q ^ n
 | 0=>by simp
 | n+1=>by
  rw [Int.pow_succ,Int.pow_succ];exact Int.mul_le_mul (yX hp h n) h hp (Int.pow_nonneg (by omega))
theorem aE8 {p q:Int}(hp:1<=p) (h:p < q) (n:Nat):uS p q n<=nP p q n:=by
 unfold uS nP;have h1:=yX (p:=p) (q:=q) (by omega) (by omega) n;have h2:0<=p ^ n:=Int.pow_nonneg (by omega);exact Int.mul_le_mul (by omega) h1 h2 (by omega)
theorem aA4 {p q:Int}(hp:1<=p) (h:p < q) (n:Nat):1<=nP p q n:=by
 have h1:0 < q ^ n:=Int.pow_pos (by omega);have:=Int.mul_pos (show 0 < q+p by omega) h1;unfold nP;omega
theorem bI8 {p q:Int}(hp:1<=p) (h:p < q) (n:Nat):0<=uS p q n:=Int.mul_nonneg (by omega) (Int.pow_nonneg (by omega))
theorem cD1 {p q:Int}(hp:1<=p) (h:p < q) (k:Int):0<=tN p q k:=by
 unfold tN;split
 ·exact bI8 hp h _
 ·have:=aE8 hp h (1 - k).toNat;omega
theorem bU4 {p q:Int}(hp:1<=p) (h:p < q) (k:Int):1<=tD p q k:=by
 unfold tD;split <;> exact aA4 hp h _
theorem bP7 {a b:Int}(ha:a<=b) (hb:1<=b):eS a b<=dU a b:=Int.ediv_le_ediv (qB hb) ha
theorem wC {x y:Int}(hx:0<=x) (hy:0 < y):gI y (x % y)=gI x y:=by
 obtain ⟨m,rfl⟩:=Int.eq_ofNat_of_zero_le hx;obtain ⟨n,rfl⟩:=Int.eq_ofNat_of_zero_le (Int.le_of_lt hy);unfold gI;rw [<- Int.natCast_emod,Int.toNat_natCast,Int.toNat_natCast,Int.toNat_natCast,Nat.gcd_comm m n,Nat.gcd_rec n m,Nat.gcd_comm]
theorem aE7 {x:Int}(hx:0<=x):gI x 0=x:=by
 unfold gI;simp;omega
theorem bJ8 {a b:Int}(hb:1<=b):gI a b<=b:=by
 have:Nat.gcd a.toNat b.toNat<=b.toNat:=Nat.gcd_le_right _ (by omega);unfold gI;omega
theorem zR {a:Int}{n:Nat}(h0:0<=a) (h9:a<=9) (hn:n<=21):0<=a ^ n/\a ^ n < 2 ^ 67:=by
 refine ⟨Int.pow_nonneg h0,?_⟩;have h1:=yX h0 h9 n;obtain ⟨m,hm⟩:∃ m,n+m=21:=⟨21 - n,by omega⟩
 have h2:(9:Int) ^ 21=9 ^ n * 9 ^ m:=by rw [<- hm,Int.pow_add]
 have h3:(1:Int)<=9 ^ m:=by have:(0:Int) < 9 ^ m:=Int.pow_pos (by decide);omega
 have h4:(0:Int)<=9 ^ n:=Int.pow_nonneg (by decide);have h5:(9:Int) ^ n * 1<=9 ^ n * 9 ^ m:=Int.mul_le_mul_of_nonneg_left h3 h4;have h6:(9:Int) ^ 21 < 2 ^ 67:=by decide
 omega
theorem tZ {a b:Int}{m n:Nat}(a0:0<=a) (a1:a < 2 ^ m) (b0:0<=b) (b1:b < 2 ^ n):0<=a * b/\a * b < 2 ^ (m+n):=by
 refine ⟨Int.mul_nonneg a0 b0,?_⟩;rw [Int.pow_add];have hp:(0:Int) < 2 ^ n:=Int.pow_pos (by decide);have h1:a * b<=a * 2 ^ n:=Int.mul_le_mul_of_nonneg_left (Int.le_of_lt b1) a0;have h2:a * 2 ^ n < 2 ^ m * 2 ^ n:=Int.mul_lt_mul_of_pos_right a1 hp;omega
structure rP (p q:Int):Prop where
 p1:1<=p
 pq:p < q
 q9:q<=9
def fH (H:Hp) (p:Addr) (a b:Int):Prop:=H p=some (.tup [.int a,.int b])
theorem qX (a b:Int):jA [V.int a,V.int b] 0=some (.int a):=rfl
theorem mL (a b:Int):jA [V.int a,V.int b] 1=some (.int b):=rfl
def cI0 (a b:Int):List V:=[.int (eS a b),.int (dU a b)]
def B72 (a:Int):Prop:=0<=a/\a < 2 ^ 180
theorem B72.below {a:Int}(h:B72 a):wP a:=⟨by have:=h.1;omega,by have:=h.2;omega⟩
theorem bZ7 {p q:Int}(s:rP p q) {n:Nat}(hn:n<=21):B72 (shN p q n)/\B72 (nP p q n)/\B72 (uS p q n):=by
 obtain ⟨h1,h2,h3⟩:=s;have e1:=zR (a:=p) (by omega) (by omega) hn;have e2:=zR (a:=q) (by omega) (by omega) hn;have q1:=tZ (a:=q - p) (m:=5) (by omega) (by omega) e1.1 e1.2;have q2:=tZ (a:=q+p) (m:=5) (by omega) (by omega) e2.1 e2.2;have q3:=tZ (a:=q) (m:=5) (by omega) (by omega) e1.1 e1.2;have up:(2:Int) ^ (5+67) < 2 ^ 180:=by decide
 exact ⟨⟨q1.1,Int.lt_trans q1.2 up⟩,⟨q2.1,Int.lt_trans q2.2 up⟩,⟨q3.1,Int.lt_trans q3.2 up⟩⟩
theorem bU1 {a b:Int}(ha:B72 a) (hb:B72 b) (h1:1<=b):B72 (eS a b)/\B72 (dU a b):=by
 have q1:=fZ (b:=b) ha.1;have q2:=jB (a:=a) h1;have q3:=aC0 ha.1 h1;have q4:=aA8 (a:=a) h1;have:=ha.2;have:=hb.2;exact ⟨⟨q1,by omega⟩,⟨by omega,by omega⟩⟩
theorem bF7 {H H':Hp}{d l p:Addr}{xs:List V}(D:eB H d l) (o:eM d l H H') (h:H p=some (.tup xs)):H' p=some (.tup xs):=by
 obtain ⟨sd,n,ls,D⟩:=D;exact o _ _ h (fN h D.dc (by intro z;cases z)) (fN h D.lc (by intro z;cases z))
def spGcd:Sp:=fun vs H Q _=>∃ a b:Int,vs=[.int a,.int b]/\0<=a/\0<=b/\Q (.int (gI a b)) H
def spMinus:Sp:=fun vs H Q _=>∃ (p q:Addr) (a b c d:Int),vs=[.ref p,.ref q]/\fH H p a b/\fH H q c d/\B72 a/\B72 b/\B72 c/\B72 d/\1<=b/\1<=d/\c * b<=a * d/\∀ r,H r=none->Q (.ref r) (aW H r (.tup (cI0 (a * d - c * b) (b * d))))
def bE9 (lo hi:Int) (f g:Int->Int->Int->Int):Sp:=fun vs H Q _=>∃ (st:Addr) (p q k:Int),vs=[.ref st,.int k]/\fH H st p q/\rP p q/\lo<=k/\k<=hi /\
 ∀ H' r,aZ H H'->fH H' r (eS (f p q k) (g p q k)) (dU (f p q k) (g p q k))->Q (.ref r) H'
def aA3 (K:W.Frag):Sp:=fun vs H Q _=>∃ (a:Addr) (ns:List Int),vs=[.ref a]/\bN K H a (ns.map V.int)/\ns.length<=63/\∀ H',Q (.bl true) H'
def dP {α: Type}(R:V->α->Prop):List V->List α->Prop
 | [],[]=>True
 | v :: vs,a :: as=>R v a/\dP R vs as
 | _,_=>False
theorem dP.mono {α: Type}{R R':V->α->Prop}(h:∀ v a,R v a->R' v a):∀ {vs:List V}{as:List α},dP R vs as->dP R' vs as
 | [],[],_=>trivial
 | _ :: _,_ :: _,⟨e,r⟩=>⟨h _ _ e,dP.mono h r⟩
 | [],_ :: _,z=>z.elim
 | _ :: _,[],z=>z.elim
theorem dP.append {α: Type}{R:V->α->Prop}:∀ {vs ws:List V}{as bs:List α},dP R vs as->dP R ws bs->dP R (vs++ws) (as++bs)
 | [],_,[],_,_,r=>r
 | _ :: _,_,_ :: _,_,⟨e,r⟩,r2=>⟨e,dP.append r r2⟩
 | [],_,_ :: _,_,z,_=>z.elim
 | _ :: _,_,[],_,z,_=>z.elim
theorem dP.length {α: Type}{R:V->α->Prop}:∀ {vs:List V}{as:List α},dP R vs as->vs.length=as.length
 | [],[],_=>rfl
 | _ :: _,_ :: _,⟨_,r⟩=>by simp [dP.length r]
 | [],_ :: _,z=>z.elim
 | _ :: _,[],z=>z.elim
def TS (H H':Hp):Prop:=∀ a xs,H a=some (.tup xs)->H' a=some (.tup xs)
theorem TS.of {H H':Hp}(s:aZ H H'):TS H H':=fun _ _ e=>s _ _ e
theorem TS.trans {H H1 H2:Hp}(a:TS H H1) (b:TS H1 H2):TS H H2:=fun c o h=>b c o (a c o h)
theorem TS.lst {H:Hp}{l:Addr}{xs ys:List V}(h:H l=some (.lst xs)):TS H (aW H l (.lst ys)):=fun a o e=>by
 rw [aQ (fN e h (by intro z;cases z))];exact e
theorem TS.out {H H':Hp}{d l:Addr}(D:eB H d l) (o:eM d l H H'):TS H H':=fun p xs h=>bF7 D o h
theorem cX {H H1:Hp}{l:Addr}{ys:List V}(s:aZ H H1) (h:H l=none):aZ H (aW H1 l (.lst ys)):=fun b o e=>by
 rw [aQ (aR e h)];exact s b o e
theorem bF {α: Type}{l:List α}{i:Nat}{x:α}(h:l[i]?=some x):l.take (i+1)=l.take i++[x]:=by
 rw [List.take_succ,h];rfl
def eD (p q n y:Int):Int:=nP p q (y - n).natAbs
structure lE (lo hi:Int):Prop where
 a:0<=lo
 b:lo<=hi
 c:hi<=9
theorem bR4 {z:Str}{r:Int}(h0:0<=r) (h1:r < (z.length:Int)):∃ c,jA z.cps.toList r=some c:=by
 have hk:r.toNat < z.cps.toList.length:=by
  rw [Array.length_toList];exact (Int.toNat_lt h0).mpr h1
 have e2:((r.toNat:Nat):Int)=r:=Int.toNat_of_nonneg h0;have q:jA z.cps.toList ((r.toNat:Nat):Int)=some z.cps.toList[r.toNat]:=fW (List.getElem?_eq_getElem hk);rw [e2] at q;exact ⟨_,q⟩
theorem vZ:∀ {zs:List Str},(∀ z∈zs,z.length=1)->(zs.map (·.length)).sum=zs.length
 | [],_=>rfl
 | z :: r,h=>by
  have h1:=h z List.mem_cons_self;have h2:=vZ fun y hy=>h y (List.mem_cons_of_mem z hy)
  simp only [List.map_cons,List.sum_cons,List.length_cons,h1,h2];omega
theorem pX (sep:Str):∀ (ys:List Str) (a:Array Nat),(ys.foldl (fun acc p=>acc++sep.cps++p.cps) a).size=a.size+(ys.map (·.length)).sum+ys.length * sep.length
 | [],a=>by simp
 | y :: r,a=>by
  rw [List.foldl_cons,pX sep r];simp only [Array.size_append,List.map_cons,List.sum_cons,List.length_cons,Nat.add_mul,Nat.one_mul];have e1:sep.cps.size=sep.length:=rfl;have e2:y.cps.size=y.length:=rfl;omega
theorem aQ3 (sep:Str) (ys:List Str):(Txt.join sep ys).length<=(ys.map (·.length)).sum+ys.length * sep.length:=by
 cases ys with
 | nil=>exact Nat.zero_le _
 | cons y r =>
  show (List.foldl (fun acc p=>acc++sep.cps++p.cps) y.cps r).size<=_;rw [pX];simp only [List.map_cons,List.sum_cons,List.length_cons,Nat.add_mul,Nat.one_mul];have e2:y.cps.size=y.length:=rfl;omega
def mZ:List Str:=["kinds","ladder","flat","choose","first","let","tell","when","else","times","end","of"]
theorem sI:∀ xs:List Str,(xs.map V.str).all kX=true
 | []=>rfl
 | _ :: r=>sI r
structure gK (H:Hp) (d l ls:Addr) (ts:List V):Prop where
 deal:eB H d l
 ne:ls≠l
 lst:H ls=some (.lst ts)
theorem gK.new {H:Hp}{d l ls:Addr}(D:eB H d l) (h:H ls=none):gK (aW H ls (.lst [])) d l ls []:=by
 obtain ⟨sd,n,l',q⟩:=id D;exact ⟨D.same (aB h _),(aR q.lc h).symm,aE⟩
theorem gK.out {H H':Hp}{d l ls:Addr}{ts:List V}(S:gK H d l ls ts) (D:eB H' d l) (o:eM d l H H'):gK H' d l ls ts:=by
 refine ⟨D,S.ne,?_⟩;obtain ⟨sd,n,l',q⟩:=S.deal;exact o _ _ S.lst (fN S.lst q.dc (by intro z;cases z)) S.ne
theorem gK.same {H H':Hp}{d l ls:Addr}{ts:List V}(S:gK H d l ls ts) (s:aZ H H'):gK H' d l ls ts:=⟨S.deal.same s,S.ne,s _ _ S.lst⟩
theorem gK.app {H:Hp}{d l ls:Addr}{ts:List V}(S:gK H d l ls ts) (us:List V):gK (aW H ls (.lst us)) d l ls us:=by
 refine ⟨?_,S.ne,aE⟩;obtain ⟨sd,n,l',q⟩:=S.deal;exact ⟨sd,n,l',⟨by rw [aQ (fN q.dc S.lst (by intro z;cases z))];exact q.dc,by rw [aQ S.ne.symm];exact q.lc,q.s0,q.s1,q.n0,q.l0⟩⟩
end Mine
namespace L2
open PySem PySem.Spec PyProof.Rows
def cE (n:Nat) (i:Int):Prop:=i.natAbs < 2 ^ n
theorem cE.mono {m n:Nat}{i:Int}(h:cE m i) (le:m<=n):cE n i:=Nat.lt_of_lt_of_le h (Nat.pow_le_pow_right (by decide) le)
theorem cE.mul {m n:Nat}{i j:Int}(h:cE m i) (k:cE n j):cE (m+n) (i * j):=by
 unfold cE at *;rw [Int.natAbs_mul,Nat.pow_add];exact Nat.mul_lt_mul'' h k
theorem cE.add {n:Nat}{i j:Int}(h:cE n i) (k:cE n j):cE (n+1) (i+j):=by
 unfold cE at *;rw [Nat.pow_succ];have:=Int.natAbs_add_le i j;omega
theorem cE.pow {n:Nat}{i:Int}(h:cE n i):∀ k:Nat,cE (n * k+1) (i ^ k)
 | 0=>by unfold cE;rw [Int.pow_zero,Nat.mul_zero];decide
 | k+1=>by
  rw [Int.pow_succ];exact ((cE.pow h k).mul h).mono (by rw [Nat.mul_succ];omega)
theorem cE.of {n:Nat}{i:Int}(h0:0<=i) (h1:i < 2 ^ n):cE n i:=by
 unfold cE;have e:((i.natAbs:Nat):Int)=i:=Int.natAbs_of_nonneg h0;have:((i.natAbs:Nat):Int) < ((2 ^ n:Nat):Int):=by rw [e];exact_mod_cast h1
 exact Int.ofNat_lt.mp this
def cA6 (i j:Int):Prop:=∃ m n,cE m i/\cE n j/\m<=100000/\n<=100000
theorem cV {X:Cx}:lB X (binaryOp .Mult) (rI cA6 fun i j=> .int (i * j)):=opI fun _ _ _ _ _ _ _ hc q=>by
 obtain ⟨m,n,a,b,hm,hn⟩:=hc;exact mul_int q (IntMulOk.of_bits (Nat.le_trans (PyProof.Rows.intBits_le a) (Nat.le_trans hm (by decide))) (Nat.le_trans (PyProof.Rows.intBits_le b) (Nat.le_trans hn (by decide))))
def cB3 (i j:Int):Prop:=0 < j/\∃ n,cE n j/\n<=8990
theorem lT {X:Cx}:lB X (binaryOp .FloorDiv) (rI cB3 fun i j=> .int (i / j)):=opI fun i j _ _ _ _ _ hc q=>by
 obtain ⟨h0,n,h1,hn⟩:=hc;refine floordiv_int (by omega) ?_ (.inl (PyProof.noPylong_of_log2 ?_))
 ·rw [Int.fdiv_eq_ediv_of_nonneg i (by omega)];exact q
 ·have h3:j.natAbs≠0:=by omega
  exact Nat.lt_of_lt_of_le ((Nat.log2_lt h3).mpr h1) (Nat.le_trans hn (by decide))
theorem oR {X:Cx}(hc:X.calm=true:=by rfl):iK X (.builtin "max") (fun xs H Q=>∃ (p:Addr) (ns:List Int),xs=[.ref p]/\bN X.K H p (ns.map V.int)/\ns≠[]/\∀ i∈ns,(∀ n∈ns,n<=i)->Q (.int i) H):=by
 intro pins s σ H xs us Q I r h;obtain ⟨p,ns,rfl,hq,hne,q⟩:=h;obtain ⟨u,rfl,ru⟩:=kT r
 cases ru
 obtain ⟨its,rv,pl,hz⟩:=I.list hq;have it:=pl.isList;have lp:p < s.heap.objs.size:=by
  obtain ⟨o,e,_⟩:=it;exact Heap.lt_size e
 have hl:=rv.length;rw [List.length_map] at hl;have val:∀ i v,its.toArray[i]?=some v->∃ t,v=Value.int (ns.getD i 0) t:=fun i v hv=>by
  have hi:its[i]?=some v:=by simpa using hv
  have hb:i < ns.length:=by
   have:=(List.getElem?_eq_some_iff.mp hi).1;omega
  obtain ⟨u,hu,ru⟩:=rv.get (i:=i) (x:=V.int ns[i]) (by rw [List.getElem?_map,List.getElem?_eq_getElem hb];rfl);rw [hi] at hu
  cases hu
  obtain ⟨t,e⟩:=ru;exact ⟨t,by rw [e];simp [List.getD,hb]⟩
 have hpos:0 < its.toArray.size:=by
  rw [List.size_toArray, <- hl]
  cases ns with
  | nil=>exact absurd rfl hne
  | cons _ _=>simp
 refine call_max_walk (wpAny_pyIter_list it ⟨s.heap.objs.size,_,_,_,_,_,_,rfl,Walks.list (A:=X.A.in1) (I.ok.hd hc) s.heap.objs.size p (Nat.ne_of_lt lp) its.toArray,⟨⟨_,Heap.get?_push_size _ rfl,rfl,rfl⟩,it.at fun o e=>Heap.get?_push_of_some _ e⟩,?_,hpos,CmpOf.ints_gt (fun i=>ns.getD i 0) val,?_⟩)
 ·intro b hb;rw [Heap.size_push];rcases List.mem_cons.mp hb with z | z
  ·rw [z];exact Nat.lt_succ_self _
  ·have z:b=p:=by simpa using z
   rw [z];exact Nat.lt_succ_of_lt lp
 ·intro v h' tk hv hk;have kept:∀ b o,s.heap.get? b=some o->h'.get? b=some o:=fun b o e=>hk b o (by
   intro z;have z:b=s.heap.objs.size:=by simpa using z
   exact absurd (Heap.lt_size e) (by rw [z];exact Nat.lt_irrefl _)) (Heap.get?_push_of_some _ e)
  have hv2:its.toArray[argBest (fun i j=>decide (ns.getD i 0 > ns.getD j 0)) (its.toArray.size - 1)]?=some v:=hv;have hin:argBest (fun i j=>decide (ns.getD i 0 > ns.getD j 0)) (its.toArray.size - 1) < ns.length:=by
   have:its[argBest (fun i j=>decide (ns.getD i 0 > ns.getD j 0)) (its.toArray.size - 1)]?=some v:=by simpa using hv2
   have:=(List.getElem?_eq_some_iff.mp this).1;omega
  obtain ⟨t,rfl⟩:=val _ _ hv;refine ⟨.int _,H,I.kept kept,⟨t,rfl⟩,q _ ?_ fun n hn=>?_⟩
  ·rw [List.getD_eq_getElem?_getD,List.getElem?_eq_getElem hin];exact List.getElem_mem hin
  obtain ⟨i,hi,e⟩:=List.mem_iff_getElem.mp hn;have:=vS (fun i=>ns.getD i 0) (its.toArray.size - 1) i (by rw [List.size_toArray, <- hl];omega);rw [show ns.getD i 0=n by simp [List.getD,hi,e]] at this;exact this
end L2
namespace HT
open PySem PySem.Spec PyProof.Rows L2
section
variable {prog:Program}{w:World}{A:Around}{E:Value->Shared->Prop}{s:Shared}
theorem getItem_tuple_all {t sl:Addr}{items:Array Value}{vl vu:Value}{lo hi:Option Int}{Q:Value->Shared->Prop}(ht:IsTup s.heap t items) (hs:s.heap.IsSliceOf sl vl vu .none) (pl:IsPart vl lo) (pu:IsPart vu hi)
  (hw:sIx items.size 0 lo=0/\sIx items.size items.size hi=items.size) (h:Q (.ref t) s):wpAny (model prog w) A (getItem (.ref t) (.ref sl)) Q E s:=by
 obtain ⟨os,hos,hcs,hds⟩:=id hs;have hTs:s.TypeIs (.ref sl) "slice":=⟨os,hos,hcs⟩
 unfold getItem
 try with_reducible refine wpAny_holding ?_
 first | refine wpAny_bind (wpAny_pure ?_) | skip
 refine wpAny_bind (wpAny_sequenceKey ht.typeIs (by decide) ?_);refine wpAny_bind (wpAny_callSpecial?_slot (name:=Str.ofString "__getitem__") ht.typeIs PyProof.Rows.slot_tuple_getitem
  (wpAny_call_entry PyProof.Rows.slot_tuple_getitem ht.typeIs entry_tuple_getitem ?_ (args_tuple_getitem _ _)))
 show wpAny _ _ (Builtin.Tuple.tupleItemsOf (.ref t) >>= _) _ _ s;refine wpAny_bind (tupleItemsOf_ ht ?_);refine wpAny_bind (wpAny_typeOf hTs ?_);rw [if_pos (by decide)];refine wpAny_bind (iV hs pl pu ?_);have hyes:(((sIx items.size 0 lo:Nat):Int) == 0 && (1:Int) == 1 && (sIx items.size items.size hi - sIx items.size 0 lo) == items.size)=true:=by
  rw [hw.1,hw.2];simp
 show wpAny _ _ (if (((sIx items.size 0 lo:Nat):Int) == 0 && (1:Int) == 1 && (sIx items.size items.size hi - sIx items.size 0 lo) == items.size)=true then _ else _) _ _ s;rw [if_pos hyes];refine wpAny_bind (show wpAny _ _ (typeOf (.ref t) >>= fun _=>_) _ _ _ from wpAny_bind (wpAny_typeOf ht.typeIs (wpAny_pure ?_)));rw [if_pos (by decide)];exact wpAny_bind (wpAny_rule (wpAny_pure ⟨_,rfl,wpAny_pure h⟩))
end
end HT
namespace L2
open PySem PySem.Spec PyProof.Rows
def rSlA:V->Option Int->Option Int->Hp->VK->Prop:=fun x lo hi H Q=>∃ a xs,x= .ref a/\H a=some (.tup xs)/\∀ r H',aZ H H'->H' r=some (.tup (gH xs lo hi))->Q (.ref r) H'
theorem tM {X:Cx}:SlR X rSlA:=by
 intro pins s σ H x v vl vu lo hi sl Q I rx hs pl pu h;obtain ⟨a,xs,rfl,ha,q⟩:=h
 by_cases c:HT.sIx xs.length 0 lo=0/\HT.sIx xs.length xs.length hi=xs.length
 ·cases rx
  obtain ⟨its,r,ht,hz⟩:=I.tuple (aX.of ha);have hlen:its.toArray.size=xs.length:=by rw [List.size_toArray];exact r.length.symm
  refine ⟨"tuple",_,PyProof.Rows.slot_tuple_getitem.lookup,ht.typeIs,?_⟩;refine HT.getItem_tuple_all ht hs pl pu (by rw [hlen];exact c) ⟨.ref a,H,I,rfl,q a H (aZ.refl _) ?_⟩;unfold gH;rw [c.1,c.2,List.drop_zero,Nat.sub_zero,List.take_length];exact ha
 ·exact aT5 pins s σ H (.ref a) v vl vu lo hi sl Q I rx hs pl pu ⟨a,xs,rfl,aX.of ha,c,fun p hp=>q p _ (aB hp _) aE⟩
abbrev lF (h:Heap) (z TI TO:Addr) (T:Addr) (f:Bool):Prop :=
 h.get? z=some { cls:= .type "zip",dict:=none,data:= .fields #[rawInt T,.bool f,.bool false,.ref TI,.ref TO],slots:= #[] }
section
variable {prog:Program}{w:World}{A:Around}{E:Value->Shared->Prop}{s:Shared}
theorem tG {z TI TO T:Addr}{f:Bool}{o:Obj}{Q:Bool->Shared->Prop}(hz:lF s.heap z TI TO T f) (hT:s.heap.get? T=some o)
  (k:∀ h',lF h' z TI TO T true->Heap.SameBut z s.heap h'->Q false { s with heap:=h' }):wpAny (model prog w) A (Builtin.SmallTypes.ownedTupleIsFree (.ref z)) Q E s:=by
 unfold Builtin.SmallTypes.ownedTupleIsFree;refine wpAny_bind (wpAny_field hz rfl (x:=rawInt T) rfl ?_);show wpAny _ _ (loadIfAlive ((T:Int).toNat) >>= _) _ _ _;rw [Int.toNat_natCast];refine wpAny_bind (W.kdx_alive hT ?_);simp only [Option.isNone_some,Bool.false_eq_true,if_false];refine wpAny_bind (wpAny_field hz rfl (x:= .bool f) rfl ?_)
 cases f with
 | true =>
  rw [if_neg (show ¬ ((Value.bool true != Value.bool true)=true) from Bool.false_ne_true)];exact wpAny_pure (k _ hz (Heap.SameBut.refl _ _))
 | false =>
  rw [if_pos (show (Value.bool false != Value.bool true)=true from rfl)];refine wpAny_bind (wpAny_setField_rec hz (by simp) fun h3 he3 hs3=>?_);exact wpAny_pure (k h3 he3 hs3)
theorem aL5 {z TI TO i1 i2 l1 l2 T:Addr}{f:Bool}{o:Obj}{k1 k2:Nat}{xs ys:Array Value}{x y:Value}{Q:Value->Shared->Prop}(D:ZipApart z TI TO i1 i2 l1 l2)
  (hz:lF s.heap z TI TO T f) (hT:s.heap.get? T=some o) (hTI:IsPair s.heap TI (.ref i1) (.ref i2))
  (h1:s.heap.IsListIter i1 l1 k1) (h2:s.heap.IsListIter i2 l2 k2) (hl1:s.heap.IsList l1 xs) (hl2:s.heap.IsList l2 ys) (hx:xs[k1]?=some x) (hy:ys[k2]?=some y)
  (hQ:∀ h',lF h' z TI TO T true->h'.IsListIter i1 l1 (k1+1)->h'.IsListIter i2 l2 (k2+1)->IsPair h' s.heap.objs.size x y->h'.objs.size=s.heap.objs.size+1 ->
   (∀ c o,c≠z->c≠i1->c≠i2->s.heap.get? c=some o->h'.get? c=some o)->Q (.ref s.heap.objs.size) { s with heap:=h' }) :
  wpAny (model prog w) A (Builtin.«zip.__next__» ⟨[.ref z],[]⟩) (fun fin s'=>∃ v,fin= .done (.ret v)/\Q v s') E s:=by
 show wpAny _ _ (field (.ref z) 2 >>= _) _ _ _;refine wpAny_bind (wpAny_field hz rfl (x:= .bool false) rfl ?_);show wpAny _ _ (field (.ref z) 3 >>= _) _ _ _;refine wpAny_bind (wpAny_field hz rfl (x:= .ref TI) rfl ?_);refine wpAny_bind (wpAny_seqItems hTI rfl ?_);show wpAny _ _ (Builtin.SmallTypes.ownedTupleIsFree (.ref z) >>= _) _ _ _;refine wpAny_bind (tG hz hT fun h1' hz1 hs1=>?_);simp only [Bool.false_eq_true,if_false];refine wpAny_bind ?_;simp only [<- Array.forIn_toList,List.forIn_cons,List.forIn_nil];refine wpAny_bind (wpAny_bind (wpAny_holding ?_));show wpAny _ _ (Builtin.SmallTypes.nextOf (.ref i1) >>= _) _ _ _;refine wpAny_bind (aW6 (h1.extBut hs1.extBut D.i1z) (hl1.extBut hs1.extBut D.l1z) hx fun h2' a1 s2=>wpAny_pure ?_);refine wpAny_pure ?_;refine wpAny_bind (wpAny_bind (wpAny_holding ?_));show wpAny _ _ (Builtin.SmallTypes.nextOf (.ref i2) >>= _) _ _ _;refine wpAny_bind (aW6 ((h2.extBut hs1.extBut D.i2z).extBut s2.extBut D.i12.symm) ((hl2.extBut hs1.extBut D.l2z).extBut s2.extBut D.l2i1) hy fun h3' a2 s3=>wpAny_pure ?_)
 refine wpAny_pure (wpAny_pure ?_);refine wpAny_bind (wpAny_newTuple (hsz:=bM) ?_);have hsz:h3'.objs.size=s.heap.objs.size:=by rw [s3.1,s2.1,hs1.1]
 have kp:∀ c o,c≠z->c≠i1->c≠i2->s.heap.get? c=some o->h3'.get? c=some o:=fun c o c1 c3 c4 e=>s3.extBut _ _ c4 (s2.extBut _ _ c3 (hs1.extBut _ _ c1 e))
 have z3:lF h3' z TI TO T true:=s3.extBut _ _ D.i2z.symm (s2.extBut _ _ D.i1z.symm hz1);have e1:h3'.IsListIter i1 l1 (k1+1):=a1.extBut s3.extBut D.i12;refine wpAny_pure ⟨_,rfl,?_⟩;show Q (.ref h3'.objs.size) _;rw [hsz];refine hQ _ (Heap.get?_push_of_some _ z3) (e1.at fun o e=>Heap.get?_push_of_some _ e) (a2.at fun o e=>Heap.get?_push_of_some _ e) ?_ (by rw [Heap.size_push,hsz]) fun c o c1 c2 c3 e=>Heap.get?_push_of_some _ (kp c o c1 c2 c3 e)
 rw [<- hsz];exact Heap.get?_push_size _ rfl
theorem aR1 {z TI TO i1 i2 l1 l2 T:Addr}{f:Bool}{o:Obj}{k1:Nat}{xs:Array Value}{Q:Fin->Shared->Prop}(hh:A.handled=none) (D:ZipApart z TI TO i1 i2 l1 l2)
  (hz:lF s.heap z TI TO T f) (hT:s.heap.get? T=some o) (hTI:IsPair s.heap TI (.ref i1) (.ref i2))
  (h1:s.heap.IsListIter i1 l1 k1) (hl1:s.heap.IsList l1 xs) (hx:xs[k1]?=none)
  (hE:∀ h' e,(∀ c o,c≠z->c≠i1->c≠i2->s.heap.get? c=some o->h'.get? c=some o)->(∃ o,h'.get? e=some o/\o.cls= .type "StopIteration")->E (.ref e) { s with heap:=h' }) :
  wpAny (model prog w) A (Builtin.«zip.__next__» ⟨[.ref z],[]⟩) Q E s:=by
 show wpAny _ _ (field (.ref z) 2 >>= _) _ _ _;refine wpAny_bind (wpAny_field hz rfl (x:= .bool false) rfl ?_);show wpAny _ _ (field (.ref z) 3 >>= _) _ _ _;refine wpAny_bind (wpAny_field hz rfl (x:= .ref TI) rfl ?_);refine wpAny_bind (wpAny_seqItems hTI rfl ?_);show wpAny _ _ (Builtin.SmallTypes.ownedTupleIsFree (.ref z) >>= _) _ _ _;refine wpAny_bind (tG hz hT fun h1' hz1 hs1=>?_);simp only [Bool.false_eq_true,if_false];refine wpAny_bind ?_;simp only [<- Array.forIn_toList,List.forIn_cons,List.forIn_nil];refine wpAny_bind (wpAny_bind (wpAny_holding ?_));show wpAny _ _ (Builtin.SmallTypes.nextOf (.ref i1) >>= _) _ _ _;refine wpAny_bind (xU hh (h1.extBut hs1.extBut D.i1z) (hl1.extBut hs1.extBut D.l1z) hx fun g e s2 he=>?_);exact hE g e (fun c o c1 c3 _ x=>s2 _ _ c3 (hs1.extBut _ _ c1 x)) he
structure ZoB (h:Heap) (TI i1 i2 l1 l2:Addr) (i:Nat) (xs ys:Array Value):Prop where
 I:IsPair h TI (.ref i1) (.ref i2)
 i1:h.IsListIter i1 l1 i
 i2:h.IsListIter i2 l2 i
 l1:h.IsList l1 xs
 l2:h.IsList l2 ys
def zI (h:Heap) (z TI TO i1 i2 l1 l2 S:Addr) (i:Nat) (xs ys:Array Value):Prop :=
 ZoB h TI i1 i2 l1 l2 i xs ys/\((i=0/\IsZip h z TI TO .none/\∃ a b,IsPair h TO a b)\/∃ T f o,lF h z TI TO T f/\h.get? T=some o/\T≠z/\T≠i1/\T≠i2/\T≠S)
theorem zI.keep {h h':Heap}{z TI TO i1 i2 l1 l2 S:Addr}{i:Nat}{xs ys:Array Value}(x:zI h z TI TO i1 i2 l1 l2 S i xs ys) (hk:∀ b o,b≠S->h.get? b=some o->h'.get? b=some o)
  (n1:z≠S) (n2:TI≠S) (n3:TO≠S) (n4:i1≠S) (n5:i2≠S) (n6:l1≠S) (n7:l2≠S):zI h' z TI TO i1 i2 l1 l2 S i xs ys:=by
 obtain ⟨b,c⟩:=x;refine ⟨⟨hk _ _ n2 b.I,b.i1.at fun o e=>hk _ o n4 e,b.i2.at fun o e=>hk _ o n5 e,b.l1.at fun o e=>hk _ o n6 e,b.l2.at fun o e=>hk _ o n7 e⟩,?_⟩;rcases c with ⟨e,a,u,v,w⟩ | ⟨T,f,o,a,b,c1,c2,c3,c4⟩
 ·exact .inl ⟨e,hk _ _ n1 a,u,v,hk _ _ n3 w⟩
 ·exact .inr ⟨T,f,o,hk _ _ n1 a,hk _ _ c4 b,c1,c2,c3,c4⟩
theorem bB0 {z TI TO i1 i2 l1 l2 S:Addr}{i:Nat}{xs ys:Array Value}{x y:Value}{Q:Option Value->Shared->Prop}(D:ZipApart z TI TO i1 i2 l1 l2) (hst:zI s.heap z TI TO i1 i2 l1 l2 S i xs ys) (hS:S < s.heap.objs.size)
  (hx:xs[i]?=some x) (hy:ys[i]?=some y)
  (hQ:∀ h',zI h' z TI TO i1 i2 l1 l2 S (i+1) xs ys->IsPair h' s.heap.objs.size x y->h'.objs.size=s.heap.objs.size+1 ->
   (∀ c o,c≠z->c≠TO->c≠i1->c≠i2->s.heap.get? c=some o->h'.get? c=some o)->Q (some (.ref s.heap.objs.size)) { s with heap:=h' }) :
  wpAny (model prog w) A (pyNext (.ref z)) Q E s:=by
 obtain ⟨b,c⟩:=hst;have li1:i1 < s.heap.objs.size:=by obtain ⟨_,e,_⟩:=b.i1;exact Heap.lt_size e
 have li2:i2 < s.heap.objs.size:=by obtain ⟨_,e,_⟩:=b.i2;exact Heap.lt_size e
 rcases c with ⟨rfl,hz,u,v,hTO⟩ | ⟨T,f,o,hz,hT,c1,c2,c3,c4⟩
 ·refine wpAny_pyNext_zip_item D hz b.I hTO b.i1 b.i2 b.l1 b.l2 hx hy fun h' a1 a2 a3 a4 a5 a6 a7=>?_
  have lz:z < s.heap.objs.size:=Heap.lt_size hz;exact hQ h' ⟨⟨a7 _ _ D.TIz D.TITO D.TIi1 D.TIi2 b.I,a3,a4,b.l1.at fun o e=>a7 _ o D.l1z D.l1TO D.l1i1 D.l1i2 e,b.l2.at fun o e=>a7 _ o D.l2z D.l2TO D.l2i1 D.l2i2 e⟩,
   .inr ⟨_,false,_,a1,a5,Nat.ne_of_gt lz,Nat.ne_of_gt li1,Nat.ne_of_gt li2,Nat.ne_of_gt hS⟩⟩ a5 a6 a7
 ·have hT':s.TypeIs (.ref z) "zip":=⟨_,hz,rfl⟩
  unfold pyNext;refine wpAny_bind (wpAny_attempt (wpAny_callSpecial?_slot (name:=Str.ofString "__next__") hT' PySem.F.slot_zip_next
   (wpAny_call_entry PySem.F.slot_zip_next hT' PySem.F.entry_zip_next
    (aL5 D hz hT b.I b.i1 b.i2 b.l1 b.l2 hx hy fun h' a1 a3 a4 a5 a6 a7=>wpAny_pure ?_) (PySem.F.args_zip_next_1 _))))
  exact hQ h' ⟨⟨a7 _ _ D.TIz D.TIi1 D.TIi2 b.I,a3,a4,b.l1.at fun o e=>a7 _ o D.l1z D.l1i1 D.l1i2 e,b.l2.at fun o e=>a7 _ o D.l2z D.l2i1 D.l2i2 e⟩,
   .inr ⟨T,true,o,a1,a7 _ _ c1 c2 c3 hT,c1,c2,c3,c4⟩⟩ a5 a6 fun c o d1 _ d3 d4 e=>a7 c o d1 d3 d4 e
theorem bB8 {z TI TO i1 i2 l1 l2 S:Addr}{i:Nat}{xs ys:Array Value}{Q:Option Value->Shared->Prop}(hh:A.handled=none) (D:ZipApart z TI TO i1 i2 l1 l2) (hst:zI s.heap z TI TO i1 i2 l1 l2 S i xs ys) (hx:xs[i]?=none)
  (hQ:∀ h',(∀ c o,c≠z->c≠TO->c≠i1->c≠i2->s.heap.get? c=some o->h'.get? c=some o)->Q none { s with heap:=h' }):wpAny (model prog w) A (pyNext (.ref z)) Q E s:=by
 obtain ⟨b,c⟩:=hst;rcases c with ⟨rfl,hz,u,v,hTO⟩ | ⟨T,f,o,hz,hT,c1,c2,c3,c4⟩
 ·exact wpAny_pyNext_zip_end hh D hz b.I hTO b.i1 b.i2 b.l1 b.l2 (.inl hx) hQ
 ·have hT':s.TypeIs (.ref z) "zip":=⟨_,hz,rfl⟩
  unfold pyNext;refine wpAny_bind (wpAny_attempt (wpAny_callSpecial?_slot (name:=Str.ofString "__next__") hT' PySem.F.slot_zip_next
   (wpAny_call_entry PySem.F.slot_zip_next hT' PySem.F.entry_zip_next (aR1 hh D hz hT b.I b.i1 b.l1 hx fun h' e hk he=>?_) (PySem.F.args_zip_next_1 _))))
  obtain ⟨o,ho,hc⟩:=he;refine wpAny_bind (wpAny_isInstance (T:="StopIteration") (b:=true) ⟨o,ho,hc⟩ isSubtype_stop ?_);exact wpAny_pure (hQ _ fun c o d1 _ d3 d4 e=>hk c o d1 d3 d4 e)
end
structure ZoG (xs ys:Array Value) (lo:Addr) (h:Heap) (as:List Addr):Prop where
 above:∀ a∈as,lo < a
 nd:as.Nodup
 pairs:∀ (j:Nat) (a:Addr),as[j]?=some a->∃ x y,xs[j]?=some x/\ys[j]?=some y/\IsPair h a x y
section
variable {prog:Program}{w:World}{A:Around}{s:Shared}{R:Result->Shared->Prop}{xs ys:Array Value}
theorem bI5 {S z TI TO i1 i2 l1 l2:Addr}(hh:A.handled=none) (D:ZipApart z TI TO i1 i2 l1 l2) (hn:xs.size<=sizeLine) (hxy:xs.size=ys.size) (res:Value) {h₁:Heap}{lo:Addr}(gz:z<=lo) (gS:S<=lo) (gO:TO<=lo) (g1:i1<=lo) (g2:i2<=lo)
  (n1:z≠S) (n2:TI≠S) (n3:TO≠S) (n4:i1≠S) (n5:i2≠S) (n6:l1≠S) (n7:l2≠S)
  (hR:∀ h' tk acc c as,(∀ b o,b≠S->b≠z->b≠TO->b≠i1->b≠i2->h₁.get? b=some o->h'.get? b=some o)->h'.get? S=some { cls:= .type "list",dict:=none,data:= .seq acc c,slots:= #[] }->as.length=xs.size->ZoG xs ys lo h' as ->
   acc.toList=as.map Value.ref->R (.ok (.ret res)) { s with heap:=h',toks:=tk }) :
  ∀ (k i:Nat) (h:Heap) (tk c:Nat) (acc:Array Value) (as:List Addr),xs.size - i=k->i<=xs.size->zI h z TI TO i1 i2 l1 l2 S i xs ys->(∀ b o,b≠S->b≠z->b≠TO->b≠i1->b≠i2->h₁.get? b=some o->h.get? b=some o) ->
   h.get? S=some { cls:= .type "list",dict:=none,data:= .seq acc c,slots:= #[] }->acc.toList=as.map Value.ref->as.length=i->ZoG xs ys lo h as->lo < h.objs.size ->
   codeAny (model prog w) A (.builtin "list.extend.loop" ⟨[.ref S,.ref z,res],[]⟩) R { s with heap:=h,toks:=tk }:=by
 intro k
 induction k with
 | zero =>
  intro i h tk c acc as hk hi hst hkeep hS hacc hal hG hIs;refine codeAny_builtin PySem.F.entry_extend_loop ?_;rw [Around.under_plainId PySem.F.plain_extend_loop _];show wpAny _ A.in1 (pyNext (.ref z) >>= _) _ _ _;refine wpAny_bind (bB8 (s:={ s with heap:=h,toks:=tk }) (A:=A.in1) hh D hst (Array.getElem?_eq_none (by omega)) fun h' he=>?_);refine wpAny_pure (hR h' tk acc c as (fun b o m1 m2 m3 m4 m5 e=>he b o m2 m3 m4 m5 (hkeep b o m1 m2 m3 m4 m5 e)) (he S _ n1.symm n3.symm n4.symm n5.symm hS) (by omega) ⟨hG.above,hG.nd,fun j a hj=>?_⟩ hacc);obtain ⟨x,y,e1,e2,e3⟩:=hG.pairs j a hj;have la:=hG.above a (List.mem_of_getElem? hj);exact ⟨x,y,e1,e2,he a _ (Nat.ne_of_gt (Nat.lt_of_le_of_lt gz la)) (Nat.ne_of_gt (Nat.lt_of_le_of_lt gO la)) (Nat.ne_of_gt (Nat.lt_of_le_of_lt g1 la)) (Nat.ne_of_gt (Nat.lt_of_le_of_lt g2 la)) e3⟩
 | succ k ih =>
  intro i h tk c acc as hk hi hst hkeep hS hacc hal hG hIs;have hlt:i < xs.size:=by omega
  have hx:xs[i]?=some xs[i]:=Array.getElem?_eq_getElem hlt;have hy:ys[i]?=some (ys[i]'(by omega)):=Array.getElem?_eq_getElem (by omega);have hsz:acc.size=i:=by rw [<- Array.length_toList,hacc,List.length_map,hal]
  refine codeAny_builtin PySem.F.entry_extend_loop ?_;rw [Around.under_plainId PySem.F.plain_extend_loop _];show wpAny _ A.in1 (pyNext (.ref z) >>= _) _ _ _;refine wpAny_bind (bB0 (s:={ s with heap:=h,toks:=tk }) (S:=S) D hst (Heap.lt_size hS) hx hy fun h' hst' ht hz hkp=>?_)
  dsimp only at ht hz hkp ⊢
  have hS':=hkp S _ n1.symm n3.symm n4.symm n5.symm hS;have up:∀ b o,b≠S->h'.get? b=some o->(h'.update S (Obj.mapSeq (·.push (Value.ref h.objs.size)))).get? b=some o:=fun b o hb e=>(Heap.get?_update_other _ _ (Ne.symm hb)).trans e
  have hSl:S < h.objs.size:=Heap.lt_size hS;show wpAny _ A.in1 (updateSeq S (·.push (Value.ref h.objs.size)) >>= _) _ _ _;refine wpAny_bind ?_;refine wpAny_updateSeq hS' rfl (wpAny_pure ⟨plainId_quiet PySem.F.plain_extend_loop _,ih (i+1) _ tk _ (acc.push (Value.ref h.objs.size)) (as++[h.objs.size]) (by omega) hlt (hst'.keep up n1 n2 n3 n4 n5 n6 n7)
   (fun b o m1 m2 m3 m4 m5 e=>up b o m1 (hkp b o m2 m3 m4 m5 (hkeep b o m1 m2 m3 m4 m5 e))) (Heap.get?_update_self _ hS' rfl) (by rw [Array.toList_push,hacc,List.map_append];rfl) (by rw [List.length_append,hal];rfl) ⟨?_,?_,?_⟩ ?_⟩) (by rw [hsz];omega) (by show (acc.push (Value.ref h.objs.size)).size<=sizeLine+1;rw [Array.size_push,hsz];omega)
  ·intro a ha;rcases List.mem_append.mp ha with ha | ha
   ·exact hG.above a ha
   ·rw [List.mem_singleton.mp ha];exact hIs
  ·rw [List.nodup_append];refine ⟨hG.nd,by simp,fun a ha b hb=>?_⟩;rw [List.mem_singleton.mp hb];obtain ⟨j,hj⟩:=List.mem_iff_getElem?.mp ha;obtain ⟨_,_,_,_,e⟩:=hG.pairs j a hj;exact Nat.ne_of_lt (Heap.lt_size e)
  ·intro j b hj;rcases Nat.lt_trichotomy j as.length with h1 | h1 | h1
   ·rw [List.getElem?_append_left h1] at hj;obtain ⟨x',y',e1,e2,e3⟩:=hG.pairs j b hj;have la:=hG.above b (List.mem_of_getElem? hj);exact ⟨x',y',e1,e2,up b _ (Nat.ne_of_gt (Nat.lt_of_le_of_lt gS la)) (hkp b _ (Nat.ne_of_gt (Nat.lt_of_le_of_lt gz la)) (Nat.ne_of_gt (Nat.lt_of_le_of_lt gO la)) (Nat.ne_of_gt (Nat.lt_of_le_of_lt g1 la)) (Nat.ne_of_gt (Nat.lt_of_le_of_lt g2 la)) e3)⟩
   ·subst h1;have hb:h.objs.size=b:=by simpa using hj
    subst hb;exact ⟨_,_,by rw [hal];exact hx,by rw [hal];exact hy,up _ _ (Nat.ne_of_gt hSl) ht⟩
   ·have hnone:(as++[h.objs.size])[j]?=none:=List.getElem?_eq_none (by rw [List.length_append,List.length_singleton];omega);rw [hnone] at hj;cases hj
  ·have e:(h'.update S (Obj.mapSeq (·.push (Value.ref h.objs.size)))).get? h.objs.size=_:=up _ _ (Nat.ne_of_gt hSl) ht;exact Nat.lt_trans hIs (Heap.lt_size e)
end
theorem aU5:typeLookup (.type "zip") "__len__"=pure none:=by rw [typeLookup_type,builtinLookup_eq_fast];kernel_rfl
theorem aM7:typeLookup (.type "zip") "__length_hint__"=pure none:=by rw [typeLookup_type,builtinLookup_eq_fast];kernel_rfl
section
variable {prog:Program}{w:World}{A:Around}{E:Value->Shared->Prop}{s:Shared}{xs ys:Array Value}
theorem wZ {n l1 l2:Nat}{Q:Value->Shared->Prop}(hh:A.handled=none) (hn:xs.size<=sizeLine) (hxy:xs.size=ys.size)
  (hz:IsZip s.heap (n+4) (n+2) (n+3) .none) (hI:IsPair s.heap (n+2) (.ref n) (.ref (n+1))) (hO:∃ a b,IsPair s.heap (n+3) a b) (h1:s.heap.IsListIter n l1 0) (h2:s.heap.IsListIter (n+1) l2 0)
  (t1:s.heap.IsList l1 xs) (t2:s.heap.IsList l2 ys) (o1:l1 < n) (o2:l2 < n)
  (k:∀ t acc c as,(∀ (b:Addr) o,(∀ j:Nat,j < 5->b≠(n+j:Nat))->s.heap.get? b=some o->t.heap.get? b=some o)->t.gens=s.gens->t.os=s.os->t.drawn=s.drawn ->
   t.heap.get? s.heap.objs.size=some { cls:= .type "list",dict:=none,data:= .seq acc c,slots:= #[] }->as.length=xs.size->ZoG xs ys s.heap.objs.size t.heap as->acc.toList=as.map Value.ref->Q (.ref s.heap.objs.size) t) :
  wpAny (model prog w) A (call (.type "list") [.ref (n+4)]) Q E s:=by
 obtain ⟨oa,ob,hO⟩:=hO;have zl:n+4 < s.heap.objs.size:=Heap.lt_size hz;have e:∀ i j:Nat,i≠j->(n+i:Nat)≠n+j:=fun i j h z=>by omega
 have f1:∀ i:Nat,l1≠n+i:=fun i z=>by omega
 have f2:∀ i:Nat,l2≠n+i:=fun i z=>by omega
 have b:∀ i:Nat,i<=4->(n+i:Nat) < s.heap.objs.size:=fun i h=>by omega
 have c1:l1 < s.heap.objs.size:=by omega
 have c2:l2 < s.heap.objs.size:=by omega
 have D:ZipApart (n+4) (n+2) (n+3) n (n+1) l1 l2:=⟨e 2 4 (by decide),e 3 4 (by decide),e 0 4 (by decide),e 1 4 (by decide),e 2 3 (by decide),e 2 0 (by decide),e 2 1 (by decide),e 3 0 (by decide),e 3 1 (by decide),e 0 1 (by decide),f1 4,f1 3,f1 0,f1 1,f2 4,f2 3,f2 0,f2 1⟩
 have nb:∀ i:Nat,i<=4->(n+i:Nat)≠s.heap.objs.size:=fun i h=>Nat.ne_of_lt (b i h)
 refine callType_codes (Q₁:=fun o t=>o= .ref s.heap.objs.size/\t={ s with heap:=s.heap.push newL }) F.called_list (F.typeCall_list_1 _) F.entry_list_init (code_list_new _ ⟨rfl,rfl⟩) ?_;rintro _ _ ⟨rfl,rfl⟩;have hS:(s.heap.push newL).get? s.heap.objs.size=some newL:=Heap.get?_push_size _ rfl;refine ⟨⟨_,hS,rfl⟩,F.args_list_init_2 _ _,?_⟩;refine wpAny_bind (m:=Builtin.List.listItems (.ref s.heap.objs.size)) (wpAny_bind (wpAny_seqItems hS rfl (wpAny_pure ?_)));refine wpAny_bind (m:=updateSeq s.heap.objs.size fun _=> #[]) (wpAny_updateSeq hS rfl (wpAny_bind (wpAny_letGo ?_)));have hS2:=Heap.get?_update_self (Obj.mapSeq fun _=>(#[]:Array Value)) hS rfl;have older:∀ b o,s.heap.get? b=some o->((s.heap.push newL).update s.heap.objs.size (Obj.mapSeq fun _=>(#[]:Array Value))).get? b=some o:=fun b o e =>
  (Heap.get?_update_other _ _ (Nat.ne_of_gt (Heap.lt_size e))).trans (Heap.get?_push_of_some _ e)
 have hTz:Shared.TypeIs { s with heap:=(s.heap.push newL).update s.heap.objs.size (Obj.mapSeq fun _=>(#[]:Array Value)) } (.ref (n+4)) "zip":=⟨_,older _ _ hz,rfl⟩
 have fin:∀ (h:Heap) (tk c:Nat),(∀ b o,b≠s.heap.objs.size->s.heap.get? b=some o->h.get? b=some o)->h.get? s.heap.objs.size=some { cls:= .type "list",dict:=none,data:= .seq #[] c,slots:= #[] } ->
   codeAny (model prog w) A.in1 (.builtin "list.extend.loop" ⟨[.ref s.heap.objs.size,.ref (n+4),.none],[]⟩) (wants (fun r s2=>r=Value.none/\Q (.ref s.heap.objs.size) s2) E) { s with heap:=h,toks:=tk }:=by
  intro h tk c hk hSh;refine bI5 (prog:=prog) (w:=w) (A:=A.in1) (R:=wants (fun r s2=>r=Value.none/\Q (.ref s.heap.objs.size) s2) E) (s:=s) (xs:=xs) (ys:=ys) (h₁:=s.heap) (lo:=s.heap.objs.size) (S:=s.heap.objs.size) hh D hn hxy .none (Nat.le_of_lt (b 4 (by decide))) (Nat.le_refl _) (Nat.le_of_lt (b 3 (by decide))) (Nat.le_of_lt (b 0 (by decide))) (Nat.le_of_lt (b 1 (by decide))) (nb 4 (by decide)) (nb 2 (by decide)) (nb 3 (by decide)) (nb 0 (by decide)) (nb 1 (by decide)) (Nat.ne_of_lt c1) (Nat.ne_of_lt c2)
   (fun h' tk' acc c' as hk' hS' hl hG hacc=>⟨rfl,k _ acc c' as (fun a o hb e'=>hk' a o (Nat.ne_of_lt (Heap.lt_size e')) (hb 4 (by decide)) (hb 3 (by decide)) (hb 0 (by decide)) (hb 1 (by decide)) e') rfl rfl rfl hS' hl hG hacc⟩)
   xs.size 0 h tk c #[] [] (Nat.sub_zero _) (Nat.zero_le _) ⟨⟨hk _ _ (nb 2 (by decide)) hI,h1.at fun o e=>hk _ o (nb 0 (by decide)) e,h2.at fun o e=>hk _ o (nb 1 (by decide)) e,t1.at fun o e=>hk _ o (Nat.ne_of_lt c1) e,t2.at fun o e=>hk _ o (Nat.ne_of_lt c2) e⟩,.inl ⟨rfl,hk _ _ (nb 4 (by decide)) hz,_,_,hk _ _ (nb 3 (by decide)) hO⟩⟩
   (fun b o m1 _ _ _ _ e=>hk b o m1 e) hSh rfl rfl ⟨(fun _ ha=>nomatch ha),List.nodup_nil,(fun j a hj=>by simp at hj)⟩ (Heap.lt_size hSh)
 unfold Builtin.List.listExtendWith;refine wpAny_bind (wpAny_typeOf hTz ?_);have same:Builtin.List.listSameRef (.ref s.heap.objs.size) (.ref (n+4))=false:=by simp [Builtin.List.listSameRef];exact fun z=>nb 4 (by decide) z.symm
 rw [if_neg (by rw [same];decide)];refine wpAny_bind (wpAny_pyIter_zip (older _ _ hz) (wpAny_bind (wpAny_holding ?_)));unfold Builtin.List.listLengthHint;refine wpAny_bind (wpAny_specialOf hTz aU5 ?_);refine wpAny_bind (m:=specialOf (Value.ref (n+4)) (Str.ofString "__length_hint__")) (wpAny_specialOf hTz aM7 ?_);refine wpAny_pure ?_;refine wpAny_ite_split (fun _=>?_) (fun hab=>absurd (by decide) hab);refine wpAny_bind (wpAny_rule ?_);refine wpAny_bind ?_;show wpAny _ _ (updateSeq s.heap.objs.size (·.push .none) >>= fun _=>updateSeq s.heap.objs.size (·.pop)) _ _ _;refine wpAny_bind (wpAny_updateSeq hS2 rfl ?_);have hS3:=Heap.get?_update_self (Obj.mapSeq (·.push Value.none)) hS2 rfl;refine wpAny_updateSeq (hz:=by seq_fits) hS3 rfl ?_;have hS4:=Heap.get?_update_self (Obj.mapSeq (·.pop)) hS3 rfl;exact wpAny_pure ⟨plainId_quiet PySem.F.plain_extend_loop _,fin _ _ _ (fun b o hb e=>(Heap.get?_update_other _ _ (Ne.symm hb)).trans ((Heap.get?_update_other _ _ (Ne.symm hb)).trans (older b o e))) hS4⟩
end
theorem zB:∀ {l:List Nat}{i:Nat}(h:i < l.length),l.Nodup->l.idxOf l[i]=i
 | [],_,h,_=>absurd h (Nat.not_lt_zero _)
 | a :: l,0,_,_=>by simp
 | a :: l,i+1,h,nd=>by
  obtain ⟨n1,n2⟩:=List.nodup_cons.mp nd;have hl:i < l.length:=by simpa using h
  have ne:(a == l[i])=false:=by
   rw [beq_eq_false_iff_ne];exact fun z=>n1 (by rw [z];exact List.getElem_mem hl)
  rw [List.getElem_cons_succ,List.idxOf_cons,ne,zB hl n2];rfl
def kL (H:Hp) (D:Addr) (as:List Addr) (xs ys:List V):Hp:=fun b=>if b=D then some (.lst (as.map V.ref)) else if b∈as then some (.tup [xs.getD (as.idxOf b) .non,ys.getD (as.idxOf b) .non]) else H b
def aV8 (K:W.Frag) (ta:TA):TE:=fun σ H Q=>ta σ H fun vs H1=>∃ (a b:Addr) (xs ys:List V),vs=[V.ref a,V.ref b]/\bN K H1 a xs/\bN K H1 b ys/\xs.length=ys.length /\
 ∀ (r:Addr) (zs:List V) (H':Hp),(∀ c o,H1 c=some o->H' c=some o)->H1 r=none->H' r=some (.lst zs)->zs.length=xs.length->(∀ (i:Nat) (x y:V),xs[i]?=some x->ys[i]?=some y->∃ q,zs[i]?=some (V.ref q)/\H' q=some (.tup [x,y]))->Q (V.ref r) H'
theorem zO {X:Cx}{a b:Expr}{ta:TA}{p1 p2 pos1 pos2:Pos}(g1:Gl X "list") (m1:X.mg "list"=none) (g2:Gl X "zip") (m2:X.mg "zip"=none) (ha:PA X [a,b] ta) (hc:X.calm=true:=by rfl)
  (hs1:starEach [.Call (.Name "zip" p2) [a,b] [] pos2] X.env=[(false,eval (.Call (.Name "zip" p2) [a,b] [] pos2) X.env)]:=by rfl) (hs:starEach [a,b] X.env=[(false,eval a X.env),(false,eval b X.env)]:=by rfl) (hs2:starEach [b] X.env=[(false,eval b X.env)]:=by rfl) :
  PE X (.Call (.Name "list" p1) [.Call (.Name "zip" p2) [a,b] [] pos2] [] pos1) (aV8 X.K ta):=by
 intro pins s σ H Q I h;refine wpAny_Call_Name_kw (jL I g1 m1 PyProof.Rows.boot_list ?_);refine PyProof.Rows.callWith_type1 ?_ hs1 rfl;rw [hs1];refine Calls.spliced_cons (wpAny_Call_Name_kw (jL I g2 m2 PyProof.Rows.boot_zip (PyProof.Rows.callWith_type1 (dQ (ha pos2 pins s σ H _ I h) fun us s1 ⟨vs,H1,I1,r1,q1⟩=>?_) (by rw [hs,hs2]) (by rw [hs2];rfl))));obtain ⟨a',b',xs,ys,rfl,q1,q2,hl,q⟩:=q1;obtain ⟨u,v,rfl,ru,rv⟩:=aF4 r1
 cases ru
 cases rv
 obtain ⟨is1,v1,p1,z1⟩:=I1.list q1;obtain ⟨is2,v2,p2,z2⟩:=I1.list q2;have la:a' < s1.heap.objs.size:=by obtain ⟨_,_,e,_⟩:=p1;exact Heap.lt_size e
 have lb:b' < s1.heap.objs.size:=by obtain ⟨_,_,e,_⟩:=p2;exact Heap.lt_size e
 have n1:=v1.length;have n2:=v2.length;refine aG5 p1.isList p2.isList fun g Z k0=>Calls.spliced_nil ?_
 have I2:bG X pins σ H1 { s1 with heap:=g }:=I1.kept (t':=s1.toks) k0;obtain ⟨hz,hI,hO,hi1,hi2⟩:=Z;have fp:∀ j:Nat,j < 5->mI X pins H1 (s1.heap.objs.size+j):=fun j _=>I1.fpOk (Nat.le_add_right ..) (I1.hok.fresh (Nat.le_add_right ..))
 refine wZ (n:=s1.heap.objs.size) (l1:=a') (l2:=b') (xs:=is1.toArray) (ys:=is2.toArray) (I.ok.hd hc) (by rw [List.size_toArray];omega) (by rw [List.size_toArray,List.size_toArray];omega) hz hI hO hi1 hi2 (p1.isList.at fun o e=>k0 _ o e) (p2.isList.at fun o e=>k0 _ o e) la lb ?_;intro t acc c as keep gens os drawn at' al G eacc;obtain ⟨D,eD⟩:∃ D,g.objs.size=D:=⟨_,rfl⟩
 have hD:g.objs.size<=D:=Nat.le_of_eq eD
 dsimp only at at' keep G ⊢
 rw [eD] at at' G ⊢;have fD:H1 D=none:=I2.hok.fresh hD;have fA:∀ x∈as,H1 x=none:=fun x hx=>I2.hok.fresh (Nat.le_of_lt (Nat.lt_of_le_of_lt hD (G.above x hx)))
 have ndA:∀ x∈as,x≠D:=fun x hx=>Nat.ne_of_gt (G.above x hx)
 have neT:∀ b u,H1 b=some u->∀ j:Nat,j < 5->b≠(s1.heap.objs.size+j:Nat):=fun b u e j hj z=>by rw [z,(fp j hj).1] at e;cases e
 have old:∀ b u,H1 b=some u->kL H1 D as xs ys b=some u:=fun b u e=>by
  unfold kL;rw [if_neg (aR e fD),if_neg (fun hb=>by rw [fA b hb] at e;cases e)];exact e
 have non:∀ b o,g.get? b=some o->H1 b=none->kL H1 D as xs ys b=none:=fun b o e n=>by
  have lt:=Heap.lt_size e;unfold kL;rw [if_neg (fun z=>absurd lt (by rw [z];exact Nat.not_lt.mpr hD)),if_neg (fun hb=>absurd lt (Nat.not_lt.mpr (Nat.le_of_lt (Nat.lt_of_le_of_lt hD (G.above b hb)))))];exact n
 have alen:as.length=xs.length:=by rw [al,List.size_toArray];omega
 have atA:∀ (i:Nat) (x y:V),xs[i]?=some x->ys[i]?=some y->∃ q,as[i]?=some q/\kL H1 D as xs ys q=some (.tup [x,y]):=fun i x y hx hy=>by
  have il:i < as.length:=by rw [alen];exact (List.getElem?_eq_some_iff.mp hx).1
  refine ⟨as[i],List.getElem?_eq_getElem il,?_⟩;have m:as[i]∈as:=List.getElem_mem il;unfold kL;rw [if_neg (ndA _ m),if_pos m,zB il G.nd,List.getD_eq_getElem?_getD,List.getD_eq_getElem?_getD,hx,hy];rfl
 have out5:∀ {b:Addr},b∉[s1.heap.objs.size+0,s1.heap.objs.size+1,s1.heap.objs.size+2,s1.heap.objs.size+3,s1.heap.objs.size+4]->∀ j:Nat,j < 5->b≠(s1.heap.objs.size+j:Nat):=fun {b} hb j hj z=>by
  refine hb ?_;rw [z];obtain rfl | rfl | rfl | rfl | rfl:j=0\/j=1\/j=2\/j=3\/j=4:=by omega
  all_goals simp
 refine ⟨.ref D,kL H1 D as xs ys,I2.call' (ch:=[s1.heap.objs.size+0,s1.heap.objs.size+1,s1.heap.objs.size+2,s1.heap.objs.size+3,s1.heap.objs.size+4]) os ⟨fun b o e n _ hx=>keep b o ?_ e,fun b o e n _ hx=>⟨o.slots,keep b o ?_ e⟩,fun b o e n _=>non b o e n,fun b o e hx=>⟨o,keep b o ?_ e⟩,fun b xs e=>old _ _ e,fun b o u e=>old _ _ e,fun b ps e=>⟨#[],?_⟩⟩ (fun b u e=>?_) (by rw [gens];exact I2.bare) (fun b hb=>?_),rfl,q D (as.map V.ref) _ old fD (by unfold kL;rw [if_pos rfl]) (by rw [List.length_map,alen]) fun i x y hx hy=>?_⟩
 ·exact out5 hx
 ·exact out5 hx
 ·exact out5 hx
 ·rw [old _ _ e];simp
 ·by_cases hb:b=D
  ·subst hb;unfold kL at e;rw [if_pos rfl] at e
   cases e
   refine ⟨by rw [List.length_map,alen];exact z1,as.map Value.ref,c,?_,?_⟩
   ·have:∀ l:List Addr,bP (l.map V.ref) (l.map Value.ref):=fun l=>by
     induction l with
     | nil=>exact .nil
     | cons x l ih=>exact .cons rfl ih
    exact this as
   ·rw [at', <- Array.toArray_toList (xs:=acc),eacc]
  ·by_cases ha:b∈as
   ·unfold kL at e;rw [if_neg hb,if_pos ha] at e
    cases e
    obtain ⟨i,il,ei⟩:=List.mem_iff_getElem.mp ha;obtain ⟨x,y,e1,e2,e3⟩:=G.pairs i b (by rw [List.getElem?_eq_getElem il,ei]);have ix:as.idxOf b=i:=by rw [<- ei];exact zB il G.nd
    have e1':is1[i]?=some x:=by simpa using e1
    have e2':is2[i]?=some y:=by simpa using e2
    obtain ⟨x',g1',r1'⟩:∃ x',xs[i]?=some x'/\bX x' x:=by
     have hl1:i < xs.length:=by rw [<- alen];exact il
     obtain ⟨u,hu,ru⟩:=v1.get (i:=i) (x:=xs[i]) (List.getElem?_eq_getElem hl1);rw [e1'] at hu;cases hu;exact ⟨_,List.getElem?_eq_getElem hl1,ru⟩
    obtain ⟨y',g2',r2'⟩:∃ y',ys[i]?=some y'/\bX y' y:=by
     have hl2:i < ys.length:=by rw [<- hl, <- alen];exact il
     obtain ⟨u,hu,ru⟩:=v2.get (i:=i) (x:=ys[i]) (List.getElem?_eq_getElem hl2);rw [e2'] at hu;cases hu;exact ⟨_,List.getElem?_eq_getElem hl2,ru⟩
    rw [ix,List.getD_eq_getElem?_getD,List.getD_eq_getElem?_getD,g1',g2'];exact ⟨bM,[x,y],.cons r1' (.cons r2' .nil),⟨_,e3,rfl,_,rfl,rfl⟩⟩
   ·have e':H1 b=some u:=by
     unfold kL at e;rw [if_neg hb,if_neg ha] at e;exact e
    refine (I2.hok b u e').stay (fun c' v hc' q'=>keep c' v ?_ q') (fun c' q'=>old _ _ q') fun c' xs q'=>old _ _ q'
    rcases hc' with z | z
    ·rw [z];exact neT b u e'
    ·exact neT c' _ z
 ·obtain ⟨j,hj,rfl⟩:∃ j:Nat,j < 5/\b=s1.heap.objs.size+j:=by
   simp only [List.mem_cons,List.not_mem_nil,or_false] at hb;rcases hb with z | z | z | z | z
   ·exact ⟨0,by decide,z⟩
   ·exact ⟨1,by decide,z⟩
   ·exact ⟨2,by decide,z⟩
   ·exact ⟨3,by decide,z⟩
   ·exact ⟨4,by decide,z⟩
  obtain ⟨f0,f1,f2,f3,f4,f5⟩:=fp j hj;exact ⟨f3,f1,f4,f5⟩
 ·obtain ⟨q,e1,e2⟩:=atA i x y hx hy;exact ⟨q,by rw [List.getElem?_map,e1];rfl,e2⟩
end L2
namespace Mine
open PySem L2
inductive Tm where
 | num (p:Addr) (n:Int)
 | nam (p:Addr) (x:Str)
 | op (p:Addr) (s:Str) (a b:Tm)
def Tm.p:Tm->Addr
 | .num p _=>p
 | .nam p _=>p
 | .op p _ _ _=>p
def Tm.names:Tm->List Str
 | .num _ _=>[]
 | .nam _ x=>[x]
 | .op _ _ a b=>a.names++b.names
def Tm.size:Tm->Nat
 | .op _ _ a b=>1+a.size+b.size
 | _=>1
def cG2:List Str:=["+","-","*","<","="]
def nK (H:Hp):Tm->Prop
 | .num p n=>H p=some (.tup [.str "num",.int n])
 | .nam p x=>H p=some (.tup [.str "name",.str x])
 | .op p s a b=>H p=some (.tup [.str "op",.str s,.ref a.p,.ref b.p])/\nK H a/\nK H b
theorem nK.ts {H H':Hp}(t:TS H H'):∀ {a:Tm},nK H a->nK H' a
 | .num _ _,h=>t _ _ h
 | .nam _ _,h=>t _ _ h
 | .op _ _ _ _,⟨h,ha,hb⟩=>⟨t _ _ h,nK.ts t ha,nK.ts t hb⟩
def Tm.w:Tm->Str
 | .num _ _=>"num"
 | .nam _ _=>"name"
 | .op _ _ _ _=>"op"
def Tm.rest:Tm->List V
 | .num _ n=>[.int n]
 | .nam _ x=>[.str x]
 | .op _ s a b=>[.str s,.ref a.p,.ref b.p]
theorem nK.at {H:Hp}:∀ {t:Tm},nK H t->H t.p=some (.tup (.str t.w :: t.rest))
 | .num _ _,h=>h
 | .nam _ _,h=>h
 | .op _ _ _ _,h=>h.1
theorem Tm.size_pos:∀ t:Tm,1<=t.size
 | .num _ _=>Nat.le_refl _
 | .nam _ _=>Nat.le_refl _
 | .op _ _ _ _=>by unfold Tm.size;omega
def Tm.pre:Tm->List Tm
 | .num p n=>[.num p n]
 | .nam p x=>[.nam p x]
 | .op p s a b=> .op p s a b :: (a.pre++b.pre)
theorem Tm.pre_len:∀ t:Tm,t.pre.length=t.size
 | .num _ _=>rfl
 | .nam _ _=>rfl
 | .op _ _ a b=>by simp only [Tm.pre,Tm.size,List.length_cons,List.length_append,Tm.pre_len a,Tm.pre_len b];omega
theorem nK.pre {H:Hp}:∀ {t:Tm},nK H t->∀ u∈t.pre,nK H u
 | .num _ _,h,u,hu=>by rw [List.mem_singleton.mp hu];exact h
 | .nam _ _,h,u,hu=>by rw [List.mem_singleton.mp hu];exact h
 | .op _ _ _ _,h,u,hu=>by
  rcases List.mem_cons.mp hu with e | e
  ·rw [e];exact h
  ·rcases List.mem_append.mp e with e | e
   ·exact nK.pre h.2.1 u e
   ·exact nK.pre h.2.2 u e
inductive xP where
 | lad (p q lo hi:Int)
 | fla (r lo hi:Int)
 | cho (p q lo hi:Int)
 | fst (pa qa pb qb mk lo hi:Int)
def xP.wd:xP->Str
 | .lad .. =>"ladder"
 | .fla .. =>"flat"
 | .cho .. =>"choose"
 | .fst .. =>"first"
def xP.one:xP->Bool
 | .lad .. =>true
 | .fla .. =>true
 | .cho .. =>false
 | .fst .. =>false
structure tJ (p q:Int):Prop where
 st:rP p q
 co:Nat.gcd p.toNat q.toNat=1
def xP.Ok:xP->Prop
 | .lad p q _ _=>tJ p q
 | .fla r _ _=>0<=r/\r<=4
 | .cho p q _ _=>tJ p q
 | .fst pa qa pb qb mk _ hi=>tJ pa qa/\tJ pb qb/\0<=hi - mk/\hi - mk<=9
structure TD where
 vs:List V
 T:xP
 wss:List (List Int)
 kd:Nat
def nO (H:Hp) (v:V) (ws:List Int):Prop:=∃ a,v= .ref a/\H a=some (.tup (ws.map V.int))
theorem nO.ts {H H':Hp}{v:V}{ws:List Int}(t:TS H H') (h:nO H v ws):nO H' v ws:=let ⟨a,e,q⟩:=h;⟨a,e,t _ _ q⟩
def aI5 (H:Hp) (d:TD):Prop:=match d.T with
 | .lad p q lo hi=>∃ w ws st,d.vs=[.ref w,.ref st,.int lo,.int hi]/\d.wss=[ws]/\H w=some (.tup (ws.map V.int))/\fH H st p q
 | .fla r lo hi=>∃ w ws,d.vs=[.ref w,.int r,.int lo,.int hi]/\d.wss=[ws]/\H w=some (.tup (ws.map V.int))
 | .cho p q lo hi=>∃ sm us st,d.vs=[.ref sm,.ref st,.int lo,.int hi]/\H sm=some (.tup us)/\dP (nO H) us d.wss/\fH H st p q
 | .fst pa qa pb qb mk lo hi=>∃ sm us sa sb,d.vs=[.int mk,.ref sa,.ref sb,.ref sm,.int lo,.int hi]/\H sm=some (.tup us)/\dP (nO H) us d.wss/\fH H sa pa qa/\fH H sb pb qb
theorem aI5.ts {H H':Hp}(t:TS H H') {d:TD}(h:aI5 H d):aI5 H' d:=by
 obtain ⟨vs,T,wss,kd⟩:=d
 cases T with
 | lad p q lo hi=>obtain ⟨w,ws,st,a,b,c,e⟩:=h;exact ⟨w,ws,st,a,b,t _ _ c,t _ _ e⟩
 | fla r lo hi=>obtain ⟨w,ws,a,b,c⟩:=h;exact ⟨w,ws,a,b,t _ _ c⟩
 | cho p q lo hi=>obtain ⟨sm,us,st,a,b,c,e⟩:=h;exact ⟨sm,us,st,a,t _ _ b,c.mono fun _ _ z=>z.ts t,t _ _ e⟩
 | fst pa qa pb qb mk lo hi=>obtain ⟨sm,us,sa,sb,a,b,c,e,f⟩:=h;exact ⟨sm,us,sa,sb,a,t _ _ b,c.mono fun _ _ z=>z.ts t,t _ _ e,t _ _ f⟩
structure bG8 (d:TD):Prop where
 l1:1<=d.wss.length
 l4:d.wss.length<=4
 ws:∀ ws∈d.wss,ws.length=d.kd/\∀ y∈ws,0<=y/\y<=3
inductive Rw where
 | thr (p:Addr) (w x:Str) (vs:TD)
 | lt (p:Addr) (x:Str) (t:Tm)
 | tell (p:Addr) (t:Tm)
 | when (p pa pb:Addr) (t:Tm) (a b:List Rw)
 | times (p pb:Addr) (n:Int) (b:List Rw)
def Rw.p:Rw->Addr
 | .thr p _ _ _=>p
 | .lt p _ _=>p
 | .tell p _=>p
 | .when p _ _ _ _ _=>p
 | .times p _ _ _=>p
def dZ:List Str:=["ladder","flat","choose","first"]
structure iQ (H:Hp) (w:Str) (d:TD):Prop where
 wd:w=d.T.wd
 ok:d.T.Ok
 at':aI5 H d
 ws:bG8 d
theorem iQ.ts {H H':Hp}(t:TS H H') {w:Str}{vs:TD}(h:iQ H w vs):iQ H' w vs:=⟨h.wd,h.ok,h.at'.ts t,h.ws⟩
theorem xP.wd_in:∀ T:xP,T.wd∈dZ
 | .lad .. =>by show ("ladder": Str)∈dZ;decide +kernel
 | .fla .. =>by show ("flat": Str)∈dZ;decide +kernel
 | .cho .. =>by show ("choose": Str)∈dZ;decide +kernel
 | .fst .. =>by show ("first": Str)∈dZ;decide +kernel
theorem iQ.w {H:Hp}{w:Str}{vs:TD}(h:iQ H w vs):w∈dZ:=by rw [h.wd];exact xP.wd_in _
mutual
def eT (H:Hp):Rw->Prop
 | .thr p w x vs=>H p=some (.tup (.str w :: .str x :: vs.vs))/\iQ H w vs
 | .lt p x t=>H p=some (.tup [.str "let",.str x,.ref t.p])/\nK H t
 | .tell p t=>H p=some (.tup [.str "tell",.ref t.p])/\nK H t
 | .when p pa pb t a b=>H p=some (.tup [.str "when",.ref t.p,.ref pa,.ref pb])/\nK H t/\H pa=some (.tup (a.map fun r=>V.ref r.p))/\H pb=some (.tup (b.map fun r=>V.ref r.p))/\bL H a/\bL H b
 | .times p pb n b=>H p=some (.tup [.str "times",.int n,.ref pb])/\H pb=some (.tup (b.map fun r=>V.ref r.p))/\bL H b
def bL (H:Hp):List Rw->Prop
 | []=>True
 | r :: rs=>eT H r/\bL H rs
end
mutual
theorem eT.ts {H H':Hp}(t:TS H H'):∀ (r:Rw),eT H r->eT H' r
 | .thr _ _ _ _,⟨h,k⟩=>⟨t _ _ h,k.ts t⟩
 | .lt _ _ _,⟨h,h2⟩=>⟨t _ _ h,h2.ts t⟩
 | .tell _ _,⟨h,h2⟩=>⟨t _ _ h,h2.ts t⟩
 | .when _ _ _ _ a b,⟨h,h2,h4,h5,h6,h7⟩=>⟨t _ _ h,h2.ts t,t _ _ h4,t _ _ h5,bL.ts t a h6,bL.ts t b h7⟩
 | .times _ _ _ b,⟨h,h2,h3⟩=>⟨t _ _ h,t _ _ h2,bL.ts t b h3⟩
theorem bL.ts {H H':Hp}(t:TS H H'):∀ (rs:List Rw),bL H rs->bL H' rs
 | [],_=>trivial
 | r :: rs,⟨h,k⟩=>⟨eT.ts t r h,bL.ts t rs k⟩
end
theorem bL.app {H:Hp}:∀ {rs qs:List Rw},bL H rs->bL H qs->bL H (rs++qs)
 | [],_,_,h=>h
 | _ :: _,_,⟨h,k⟩,h2=>⟨h,bL.app k h2⟩
theorem bL.mem {H:Hp}:∀ {rs:List Rw},bL H rs->∀ r∈rs,eT H r
 | [],_,_,h=>absurd h List.not_mem_nil
 | r :: rs,⟨h,k⟩,x,hx=>by
  rcases List.mem_cons.mp hx with e | e
  ·rw [e];exact h
  ·exact bL.mem k x e
def Rw.w:Rw->Str
 | .thr _ w _ _=>w
 | .lt _ _ _=>"let"
 | .tell _ _=>"tell"
 | .when _ _ _ _ _ _=>"when"
 | .times _ _ _ _=>"times"
def Rw.rest:Rw->List V
 | .thr _ _ x vs=> .str x :: vs.vs
 | .lt _ x t=>[.str x,.ref t.p]
 | .tell _ t=>[.ref t.p]
 | .when _ pa pb t _ _=>[.ref t.p,.ref pa,.ref pb]
 | .times _ pb n _=>[.int n,.ref pb]
theorem eT.at {H:Hp}:∀ {r:Rw},eT H r->H r.p=some (.tup (.str r.w :: r.rest))
 | .thr _ _ _ _,h=>h.1
 | .lt _ _ _,h=>h.1
 | .tell _ _,h=>h.1
 | .when _ _ _ _ _ _,h=>h.1
 | .times _ _ _ _,h=>h.1
mutual
def Rw.cnt:Rw->Nat
 | .when _ _ _ _ a b=>1+(cU a+cU b)
 | .times _ _ _ b=>1+cU b
 | .thr _ _ _ _=>1
 | .lt _ _ _=>1
 | .tell _ _=>1
def cU:List Rw->Nat
 | []=>0
 | r :: rs=>r.cnt+cU rs
end
theorem gB:∀ (rs qs:List Rw),cU (rs++qs)=cU rs+cU qs
 | [],qs=>by simp [cU]
 | r :: rs,qs=>by simp only [List.cons_append,cU,gB rs qs];omega
theorem Rw.cnt_pos:∀ r:Rw,1<=r.cnt
 | .thr _ _ _ _=>Nat.le_refl _
 | .lt _ _ _=>Nat.le_refl _
 | .tell _ _=>Nat.le_refl _
 | .when _ _ _ _ _ _=>by unfold Rw.cnt;omega
 | .times _ _ _ _=>by unfold Rw.cnt;omega
theorem gU:∀ rs:List Rw,rs.length<=cU rs
 | []=>Nat.zero_le _
 | r :: rs=>by have:=gU rs;have:=r.cnt_pos;simp only [List.length_cons,cU];omega
mutual
def Rw.flat:Rw->List Rw
 | .when p pa pb t a b=> .when p pa pb t a b :: (bK a++bK b)
 | .times p pb n b=> .times p pb n b :: bK b
 | .thr p w x vs=>[.thr p w x vs]
 | .lt p x t=>[.lt p x t]
 | .tell p t=>[.tell p t]
def bK:List Rw->List Rw
 | []=>[]
 | r :: rs=>r.flat++bK rs
end
def Rw.kids:Rw->List Rw
 | .when _ _ _ _ a b=>a++b
 | .times _ _ _ b=>b
 | .thr _ _ _ _=>[]
 | .lt _ _ _=>[]
 | .tell _ _=>[]
theorem gZ:∀ (rs qs:List Rw),bK (rs++qs)=bK rs++bK qs
 | [],qs=>by simp [bK]
 | r :: rs,qs=>by simp only [List.cons_append,bK,gZ rs qs,List.append_assoc]
theorem uR:∀ r:Rw,r.flat=r :: bK r.kids
 | .when _ _ _ _ a b=>by simp only [Rw.flat,Rw.kids,gZ]
 | .times _ _ _ b=>by simp only [Rw.flat,Rw.kids]
 | .thr _ _ _ _=>by simp only [Rw.flat,Rw.kids,bK]
 | .lt _ _ _=>by simp only [Rw.flat,Rw.kids,bK]
 | .tell _ _=>by simp only [Rw.flat,Rw.kids,bK]
theorem aX7:∀ r:Rw,r.cnt=1+cU r.kids
 | .when _ _ _ _ a b=>by simp only [Rw.cnt,Rw.kids,gB]
 | .times _ _ _ b=>by simp only [Rw.cnt,Rw.kids]
 | .thr _ _ _ _=>by simp only [Rw.cnt,Rw.kids,cU]
 | .lt _ _ _=>by simp only [Rw.cnt,Rw.kids,cU]
 | .tell _ _=>by simp only [Rw.cnt,Rw.kids,cU]
theorem eT.kids {H:Hp}:∀ {r:Rw},eT H r->bL H r.kids
 | .when _ _ _ _ _ _,h=>bL.app h.2.2.2.2.1 h.2.2.2.2.2
 | .times _ _ _ _,h=>h.2.2
 | .thr _ _ _ _,_=>trivial
 | .lt _ _ _,_=>trivial
 | .tell _ _,_=>trivial
mutual
theorem aS3:∀ r:Rw,r.flat.length=r.cnt
 | .when _ _ _ _ a b=>by simp only [Rw.flat,Rw.cnt,List.length_cons,List.length_append,eQ a,eQ b];omega
 | .times _ _ _ b=>by simp only [Rw.flat,Rw.cnt,List.length_cons,eQ b];omega
 | .thr _ _ _ _=>by simp only [Rw.flat,Rw.cnt,List.length_cons,List.length_nil]
 | .lt _ _ _=>by simp only [Rw.flat,Rw.cnt,List.length_cons,List.length_nil]
 | .tell _ _=>by simp only [Rw.flat,Rw.cnt,List.length_cons,List.length_nil]
theorem eQ:∀ rs:List Rw,(bK rs).length=cU rs
 | []=>rfl
 | r :: rs=>by simp only [bK,cU,List.length_append,aS3 r,eQ rs]
end
mutual
theorem eT.flat {H:Hp}:∀ (r:Rw),eT H r->bL H r.flat
 | .when p pa pb t a b,h=>by
  simp only [Rw.flat];exact ⟨h,bL.app (bL.flat a h.2.2.2.2.1) (bL.flat b h.2.2.2.2.2)⟩
 | .times p pb n b,h=>by
  simp only [Rw.flat];exact ⟨h,bL.flat b h.2.2⟩
 | .thr _ _ _ _,h=>by simp only [Rw.flat];exact ⟨h,trivial⟩
 | .lt _ _ _,h=>by simp only [Rw.flat];exact ⟨h,trivial⟩
 | .tell _ _,h=>by simp only [Rw.flat];exact ⟨h,trivial⟩
theorem bL.flat {H:Hp}:∀ (rs:List Rw),bL H rs->bL H (bK rs)
 | [],_=>trivial
 | r :: rs,⟨h,k⟩=>by
  simp only [bK];exact bL.app (eT.flat r h) (bL.flat rs k)
end
abbrev Stp:=Str×Rw
def gM:Rw->List Stp
 | .when p pa pb t a b=>a.map (fun r=>(("row": Str),r))++[(("else": Str),Rw.when p pa pb t a b)]++b.map (fun r=>(("row": Str),r))++[(("end": Str),Rw.when p pa pb t a b)]
 | .times p pb n b=>b.map (fun r=>(("row": Str),r))++[(("end": Str),Rw.times p pb n b)]
 | .thr _ _ _ _=>[]
 | .lt _ _ _=>[]
 | .tell _ _=>[]
mutual
def iH:Rw->List Stp
 | .when p pa pb t a b=>(("row": Str),Rw.when p pa pb t a b) :: (iP a++[(("else": Str),Rw.when p pa pb t a b)]++iP b++[(("end": Str),Rw.when p pa pb t a b)])
 | .times p pb n b=>(("row": Str),Rw.times p pb n b) :: (iP b++[(("end": Str),Rw.times p pb n b)])
 | .thr p w x vs=>[("row",.thr p w x vs)]
 | .lt p x t=>[("row",.lt p x t)]
 | .tell p t=>[("row",.tell p t)]
def iP:List Rw->List Stp
 | []=>[]
 | r :: rs=>iH r++iP rs
end
def expd (s:Stp):List Stp:=if s.1="row" then iH s.2 else [s]
theorem aR6:¬ (("else": Str)="row"):=by decide +kernel
theorem uL:¬ (("end": Str)="row"):=by decide +kernel
theorem kQ:∀ rs:List Rw,(rs.map (fun r=>(("row": Str),r))).flatMap expd=iP rs
 | []=>rfl
 | r :: rs=>by simp only [List.map_cons,List.flatMap_cons,kQ rs,iP];rfl
theorem zV:∀ r:Rw,iH r=(("row": Str),r) :: (gM r).flatMap expd
 | .when p pa pb t a b=>by
  simp only [iH,gM,List.flatMap_append,kQ,List.flatMap_cons,List.flatMap_nil,List.append_nil];simp only [expd,if_neg aR6,if_neg uL]
 | .times p pb n b=>by
  simp only [iH,gM,List.flatMap_append,kQ,List.flatMap_cons,List.flatMap_nil,List.append_nil];simp only [expd,if_neg uL]
 | .thr _ _ _ _=>by simp only [iH,gM,List.flatMap_nil]
 | .lt _ _ _=>by simp only [iH,gM,List.flatMap_nil]
 | .tell _ _=>by simp only [iH,gM,List.flatMap_nil]
mutual
theorem aU1:∀ r:Rw,(iH r).length<=3 * r.cnt
 | .when _ _ _ _ a b=>by have:=gY a;have:=gY b;simp only [iH,Rw.cnt,List.length_cons,List.length_append,List.length_nil];omega
 | .times _ _ _ b=>by have:=gY b;simp only [iH,Rw.cnt,List.length_cons,List.length_append,List.length_nil];omega
 | .thr _ _ _ _=>by simp only [iH,Rw.cnt,List.length_cons,List.length_nil];omega
 | .lt _ _ _=>by simp only [iH,Rw.cnt,List.length_cons,List.length_nil];omega
 | .tell _ _=>by simp only [iH,Rw.cnt,List.length_cons,List.length_nil];omega
theorem gY:∀ rs:List Rw,(iP rs).length<=3 * cU rs
 | []=>Nat.le_refl _
 | r :: rs=>by have:=aU1 r;have:=gY rs;simp only [iP,cU,List.length_append];omega
end
mutual
theorem aN2:∀ r:Rw,((iH r).filter fun s:Stp=>decide (s.1="row")).map (·.2)=r.flat
 | .when p pa pb t a b=>by
  simp only [iH,Rw.flat,List.filter_cons,List.filter_append,List.map_append,List.filter_nil,decide_eq_false aR6,decide_eq_false uL,decide_true,if_true,List.map_cons,List.map_nil,List.append_nil,Bool.false_eq_true,if_false,hJ a,hJ b]
 | .times p pb n b=>by
  simp only [iH,Rw.flat,List.filter_cons,List.filter_append,List.map_append,List.filter_nil,decide_eq_false uL,decide_true,if_true,List.map_cons,List.map_nil,List.append_nil,Bool.false_eq_true,if_false,hJ b]
 | .thr _ _ _ _=>by simp [iH,Rw.flat]
 | .lt _ _ _=>by simp [iH,Rw.flat]
 | .tell _ _=>by simp [iH,Rw.flat]
theorem hJ:∀ rs:List Rw,((iP rs).filter fun s:Stp=>decide (s.1="row")).map (·.2)=bK rs
 | []=>rfl
 | r :: rs=>by simp only [iP,bK,List.filter_append,List.map_append,aN2 r,hJ rs]
end
theorem sZ {H H2:Hp}{d l a:Addr}(D2:eB H2 d l) (o:eM d l H H2) (h:H2 a=none):H a=none:=by
 cases q:H a with
 | none=>rfl
 | some u =>
  exfalso;obtain ⟨sd,n,ls,z⟩:=D2
  by_cases h1:a=d
  ·rw [h1,z.dc] at h;cases h
  ·by_cases h2:a=l
   ·rw [h2,z.lc] at h;cases h
   ·rw [o a u q h1 h2] at h;cases h
theorem cQ {H:Hp}{d l r:Addr}(D:eB H d l) (h:H r=none):r≠d/\r≠l:=by
 obtain ⟨sd,n,ls,z⟩:=D;exact ⟨(aR z.dc h).symm,(aR z.lc h).symm⟩
theorem wX {H:Hp}{d l p:Addr}{xs ys:List V}(D:eB H d l) (h:H p=some (.lst xs)) (n:p≠l):eB (aW H p (.lst ys)) d l:=by
 obtain ⟨sd,k,ls,z⟩:=D;exact ⟨sd,k,ls,⟨by rw [aQ (fN z.dc h (by intro z;cases z))];exact z.dc,by rw [aQ n.symm];exact z.lc,z.s0,z.s1,z.n0,z.l0⟩⟩
theorem bE {H H':Hp}{d l p:Addr}{xs:List V}(D:eB H d l) (h:H p=some (.lst xs)) (n:p≠l) (o:eM d l H H'):H' p=some (.lst xs):=by
 obtain ⟨sd,k,ls,z⟩:=D;exact o _ _ h (fN h z.dc (by intro z;cases z)) n
theorem aC2 {H H2:Hp}{d l lf:Addr}{o:HO}(h:eM d l H H2) (hf:H lf=none):eM d l H (aW H2 lf o):=fun b u e h1 h2=>by
 rw [aQ (aR e hf)];exact h b u e h1 h2
def jN (S:List Addr) (H H':Hp):Prop:=∀ b o,H b=some o->b∉S->H' b=some o
theorem jN.trans {S:List Addr}{H H1 H2:Hp}(a:jN S H H1) (b:jN S H1 H2):jN S H H2:=fun c o e h=>b c o (a c o e h) h
theorem jN.of {S:List Addr}{H H':Hp}(s:aZ H H'):jN S H H':=fun c o e _=>s c o e
theorem jN.out {d l sc:Addr}{H H':Hp}(o:eM d l H H'):jN [d,l,sc] H H':=fun b u e n=>o b u e (fun z=>n (by rw [z];exact List.mem_cons_self)) (fun z=>n (by rw [z];exact List.mem_cons_of_mem _ List.mem_cons_self))
theorem jN.new {S:List Addr}{H H1:Hp}{p:Addr}{o:HO}(a:jN S H H1) (h:H p=none):jN S H (aW H1 p o):=fun b u e n=>by
 rw [aQ (aR e h)];exact a b u e n
theorem jN.fresh {S:List Addr}{H H1:Hp}{p:Addr}(a:jN S H H1) (hS:∀ b∈S,∃ o,H1 b=some o) (h:H1 p=none):H p=none:=by
 cases q:H p with
 | none=>rfl
 | some u =>
  exfalso
  by_cases m:p∈S
  ·obtain ⟨o,e⟩:=hS p m;rw [e] at h;cases h
  ·rw [a p u q m] at h;cases h
theorem pT {κ: Type} [DecidableEq κ] {m:List (κ×V)}{k:κ}{x:V}(v:V) (h:cM m k=some x):(dB m k v).length=m.length:=by
 unfold dB;rw [iW,h,if_pos (by rfl),List.length_map]
structure Wk (kvs:List (Key×V)) (nl:Addr) (kd lf:Int):Prop where
 len:kvs.length<=7
 nm:cM kvs (Sum.inr "names": Key)=some (.ref nl)
 kd:cM kvs (Sum.inr "kinds": Key)=some (.int kd)/\0<=kd/\kd<=3
 wd:cM kvs (Sum.inr "wide": Key)=some (.int 6)
 lf:cM kvs (Sum.inr "left": Key)=some (.int lf)/\0<=lf
 rm:∃ n:Int,cM kvs (Sum.inr "room": Key)=some (.int n)
 qt:∃ b:Bool,cM kvs (Sum.inr "quiet": Key)=some (.bl b)
 fr:∃ n:Int,cM kvs (Sum.inr "far": Key)=some (.int n)
theorem Wk.put_left {kvs:List (Key×V)}{nl:Addr}{kd lf:Int}(h:Wk kvs nl kd lf) (u:Int) (h0:0<=u):Wk (dB kvs (Sum.inr "left": Key) (.int u)) nl kd u:=by
 have e0:=h.lf.1;exact ⟨by rw [pT _ e0];exact h.len,by rw [aT,if_neg (by decide +kernel)];exact h.nm,⟨by rw [aT,if_neg (by decide +kernel)];exact h.kd.1,h.kd.2⟩,by rw [aT,if_neg (by decide +kernel)];exact h.wd,⟨by rw [aT,if_pos rfl],h0⟩,let ⟨n,e⟩:=h.rm;⟨n,by rw [aT,if_neg (by decide +kernel)];exact e⟩,let ⟨n,e⟩:=h.qt;⟨n,by rw [aT,if_neg (by decide +kernel)];exact e⟩,let ⟨n,e⟩:=h.fr;⟨n,by rw [aT,if_neg (by decide +kernel)];exact e⟩⟩
theorem Wk.put_room {kvs:List (Key×V)}{nl:Addr}{kd lf:Int}(h:Wk kvs nl kd lf) (u:Int):Wk (dB kvs (Sum.inr "room": Key) (.int u)) nl kd lf:=by
 obtain ⟨_,e0⟩:=h.rm;exact ⟨by rw [pT _ e0];exact h.len,by rw [aT,if_neg (by decide +kernel)];exact h.nm,⟨by rw [aT,if_neg (by decide +kernel)];exact h.kd.1,h.kd.2⟩,by rw [aT,if_neg (by decide +kernel)];exact h.wd,⟨by rw [aT,if_neg (by decide +kernel)];exact h.lf.1,h.lf.2⟩,⟨u,by rw [aT,if_pos rfl]⟩,let ⟨n,e⟩:=h.qt;⟨n,by rw [aT,if_neg (by decide +kernel)];exact e⟩,let ⟨n,e⟩:=h.fr;⟨n,by rw [aT,if_neg (by decide +kernel)];exact e⟩⟩
theorem Wk.put_quiet {kvs:List (Key×V)}{nl:Addr}{kd lf:Int}(h:Wk kvs nl kd lf) (u:Bool):Wk (dB kvs (Sum.inr "quiet": Key) (.bl u)) nl kd lf:=by
 obtain ⟨_,e0⟩:=h.qt;exact ⟨by rw [pT _ e0];exact h.len,by rw [aT,if_neg (by decide +kernel)];exact h.nm,⟨by rw [aT,if_neg (by decide +kernel)];exact h.kd.1,h.kd.2⟩,by rw [aT,if_neg (by decide +kernel)];exact h.wd,⟨by rw [aT,if_neg (by decide +kernel)];exact h.lf.1,h.lf.2⟩,let ⟨n,e⟩:=h.rm;⟨n,by rw [aT,if_neg (by decide +kernel)];exact e⟩,⟨u,by rw [aT,if_pos rfl]⟩,let ⟨n,e⟩:=h.fr;⟨n,by rw [aT,if_neg (by decide +kernel)];exact e⟩⟩
structure Wd (H:Hp) (d l sc nl:Addr) (xs:List Str) (kd lf:Int):Prop where
 deal:eB H d l
 scn:∃ kvs,H sc=some (.dK kvs)/\Wk kvs nl kd lf
 nms:H nl=some (.lst (xs.map V.str))
 ne1:sc≠d
 ne2:nl≠l
 x1:1<=xs.length
 x2:xs.length<=12
section
variable {H H':Hp}{d l sc nl:Addr}{xs:List Str}{kd lf:Int}
theorem Wd.sl (W:Wd H d l sc nl xs kd lf):sc≠l:=by
 obtain ⟨kvs,e,_⟩:=W.scn;obtain ⟨sd,k,ls,z⟩:=W.deal;exact fN e z.lc (by intro z;cases z)
theorem Wd.out (W:Wd H d l sc nl xs kd lf) (D:eB H' d l) (o:eM d l H H'):Wd H' d l sc nl xs kd lf :=
 ⟨D,let ⟨kvs,e,w⟩:=W.scn;⟨kvs,o _ _ e W.ne1 W.sl,w⟩,bE W.deal W.nms W.ne2 o,W.ne1,W.ne2,W.x1,W.x2⟩
theorem Wd.same (W:Wd H d l sc nl xs kd lf) (s:aZ H H'):Wd H' d l sc nl xs kd lf :=
 ⟨W.deal.same s,let ⟨kvs,e,w⟩:=W.scn;⟨kvs,s _ _ e,w⟩,s _ _ W.nms,W.ne1,W.ne2,W.x1,W.x2⟩
theorem Wd.put {lf':Int}(W:Wd H d l sc nl xs kd lf) {kvs:List (Key×V)}(w:Wk kvs nl kd lf'):Wd (aW H sc (.dK kvs)) d l sc nl xs kd lf':=by
 obtain ⟨kvs0,e,_⟩:=W.scn;obtain ⟨sd,k,ls,z⟩:=id W.deal;have n1:=W.ne1;have n2:=W.sl;refine ⟨⟨sd,k,ls,⟨by rw [aQ n1.symm];exact z.dc,by rw [aQ n2.symm];exact z.lc,z.s0,z.s1,z.n0,z.l0⟩⟩,⟨kvs,aE,w⟩,?_,n1,W.ne2,W.x1,W.x2⟩;rw [aQ (fN W.nms e (by intro z;cases z))];exact W.nms
theorem Wd.off (_:Wd H d l sc nl xs kd lf) (kvs:List (Key×V)):jN [d,l,sc] H (aW H sc (.dK kvs)):=fun b u e n=>by
 rw [aQ fun z=>n (by rw [z];simp)];exact e
theorem Wd.put_left (W:Wd H d l sc nl xs kd lf) (u:Int) (h0:0<=u):∃ kvs,jI H sc (.str "left") (.int u) (aW H sc (.dK kvs))/\Wd (aW H sc (.dK kvs)) d l sc nl xs kd u/\jN [d,l,sc] H (aW H sc (.dK kvs)):=by
 obtain ⟨kvs,e,w⟩:=W.scn;exact ⟨_,jI.k (k:=Sum.inr "left") e (bD (by have:=w.len;omega)),W.put (w.put_left u h0),W.off _⟩
theorem Wd.put_room (W:Wd H d l sc nl xs kd lf) (u:Int):∃ kvs,jI H sc (.str "room") (.int u) (aW H sc (.dK kvs))/\Wd (aW H sc (.dK kvs)) d l sc nl xs kd lf/\jN [d,l,sc] H (aW H sc (.dK kvs)):=by
 obtain ⟨kvs,e,w⟩:=W.scn;exact ⟨_,jI.k (k:=Sum.inr "room") e (bD (by have:=w.len;omega)),W.put (w.put_room u),W.off _⟩
theorem Wd.put_quiet (W:Wd H d l sc nl xs kd lf) (u:Bool):∃ kvs,jI H sc (.str "quiet") (.bl u) (aW H sc (.dK kvs))/\Wd (aW H sc (.dK kvs)) d l sc nl xs kd lf/\jN [d,l,sc] H (aW H sc (.dK kvs)):=by
 obtain ⟨kvs,e,w⟩:=W.scn;exact ⟨_,jI.k (k:=Sum.inr "quiet") e (bD (by have:=w.len;omega)),W.put (w.put_quiet u),W.off _⟩
theorem Wd.get_names (W:Wd H d l sc nl xs kd lf):eE H sc (.str "names") (some (.ref nl)):=by
 obtain ⟨kvs,e,w⟩:=W.scn;rw [<- w.nm];exact eE.k (k:=Sum.inr "names") e
theorem Wd.get_left (W:Wd H d l sc nl xs kd lf):eE H sc (.str "left") (some (.int lf)):=by
 obtain ⟨kvs,e,w⟩:=W.scn;rw [<- w.lf.1];exact eE.k (k:=Sum.inr "left") e
theorem Wd.lf0 (W:Wd H d l sc nl xs kd lf):0<=lf:=let ⟨_,_,w⟩:=W.scn;w.lf.2
theorem Wd.get_room (W:Wd H d l sc nl xs kd lf):∃ v:Int,eE H sc (.str "room") (some (.int v)):=by
 obtain ⟨kvs,e,w⟩:=W.scn;obtain ⟨v,h⟩:=w.rm;refine ⟨v,?_⟩;rw [<- h];exact eE.k (k:=Sum.inr "room") e
theorem Wd.get_quiet (W:Wd H d l sc nl xs kd lf):∃ v:Bool,eE H sc (.str "quiet") (some (.bl v)):=by
 obtain ⟨kvs,e,w⟩:=W.scn;obtain ⟨v,h⟩:=w.qt;refine ⟨v,?_⟩;rw [<- h];exact eE.k (k:=Sum.inr "quiet") e
theorem Wd.get_far (W:Wd H d l sc nl xs kd lf):∃ v:Int,eE H sc (.str "far") (some (.int v)):=by
 obtain ⟨kvs,e,w⟩:=W.scn;obtain ⟨v,h⟩:=w.fr;refine ⟨v,?_⟩;rw [<- h];exact eE.k (k:=Sum.inr "far") e
theorem Wd.ts (W:Wd H d l sc nl xs kd lf) (o:jN [d,l,sc] H H'):TS H H':=fun p ys h=>by
 obtain ⟨kvs,e,_⟩:=W.scn;obtain ⟨sd,k,ls,z⟩:=W.deal;refine o _ _ h fun m=>?_
 simp only [List.mem_cons,List.not_mem_nil,or_false] at m;rcases m with m | m | m
 ·rw [m,z.dc] at h;cases h
 ·rw [m,z.lc] at h;cases h
 ·rw [m,e] at h;cases h
theorem Wd.keep (W:Wd H d l sc nl xs kd lf) {p:Addr}{ys:List V}(h:H p=some (.lst ys)) (n:p≠l) (o:jN [d,l,sc] H H'):H' p=some (.lst ys):=by
 obtain ⟨kvs,e,_⟩:=W.scn;obtain ⟨sd,k,ls,z⟩:=W.deal;refine o _ _ h fun m=>?_
 simp only [List.mem_cons,List.not_mem_nil,or_false] at m;rcases m with m | m | m
 ·rw [m,z.dc] at h;cases h
 ·exact n m
 ·rw [m,e] at h;cases h
theorem Wd.lst (W:Wd H d l sc nl xs kd lf) {p:Addr}{ys zs:List V}(h:H p=some (.lst ys)) (n:p≠l) (n2:p≠nl):Wd (aW H p (.lst zs)) d l sc nl xs kd lf:=by
 obtain ⟨kvs,e,w⟩:=W.scn;exact ⟨wX W.deal h n,⟨kvs,by rw [aQ (fN e h (by intro z;cases z))];exact e,w⟩,by rw [aQ n2.symm];exact W.nms,W.ne1,W.ne2,W.x1,W.x2⟩
theorem Wd.all (W:Wd H d l sc nl xs kd lf):∀ b∈[d,l,sc],∃ o,H b=some o:=by
 obtain ⟨kvs,e,_⟩:=W.scn;obtain ⟨sd,k,ls,z⟩:=W.deal;intro b m;simp only [List.mem_cons,List.not_mem_nil,or_false] at m;rcases m with m | m | m
 ·exact ⟨_,by rw [m];exact z.dc⟩
 ·exact ⟨_,by rw [m];exact z.lc⟩
 ·exact ⟨_,by rw [m];exact e⟩
end
def cI (rs:List Rw):List V:=rs.map fun r=>V.ref r.p
def Tm.nm:Tm->Option Str
 | .nam _ x=>some x
 | _=>none
theorem Tm.pre_names:∀ t:Tm,t.pre.filterMap Tm.nm=t.names
 | .num _ _=>rfl
 | .nam _ _=>rfl
 | .op p s a b=>by
  show List.filterMap Tm.nm (Tm.op p s a b :: (a.pre++b.pre))=a.names++b.names;rw [List.filterMap_cons_none (by rfl),List.filterMap_append,Tm.pre_names a,Tm.pre_names b]
theorem Tm.names_len:∀ t:Tm,t.names.length<=t.size
 | .num _ _=>Nat.zero_le _
 | .nam _ _=>Nat.le_refl _
 | .op _ _ a b=>by have:=Tm.names_len a;have:=Tm.names_len b;simp only [Tm.names,Tm.size,List.length_append];omega
def Rw.sets:Rw->Option Str
 | .thr _ _ x _=>some x
 | .lt _ x _=>some x
 | .tell _ _=>none
 | .when _ _ _ _ _ _=>none
 | .times _ _ _ _=>none
def Rw.tm:Rw->List Tm
 | .thr _ _ _ _=>[]
 | .lt _ _ t=>[t]
 | .tell _ t=>[t]
 | .when _ _ _ t _ _=>[t]
 | .times _ _ _ _=>[]
def Rw.asked:Rw->List Str
 | .thr _ _ _ _=>[]
 | .lt _ _ t=>t.names
 | .tell _ t=>t.names
 | .when _ _ _ t _ _=>t.names
 | .times _ _ _ _=>[]
def Rw.told:Rw->List Str
 | .thr _ _ _ _=>[]
 | .lt _ _ _=>[]
 | .tell _ t=>t.names
 | .when _ _ _ t _ _=>t.names
 | .times _ _ _ _=>[]
def Rw.lets (x:Str):Rw->List Str
 | .thr _ _ _ _=>[]
 | .lt _ y t=>if y=x then t.names else []
 | .tell _ _=>[]
 | .when _ _ _ _ _ _=>[]
 | .times _ _ _ _=>[]
def xQ (xs:List Str) (r:Rw):Prop:=∀ t∈r.tm,t.size<=7/\∀ y∈t.names,y∈xs
def iR (xs:List Str) (rs:List Rw):Prop:=∀ r∈bK rs,xQ xs r
mutual
def qR:Rw->Nat
 | .thr _ _ _ _=>0
 | .lt _ _ _=>0
 | .tell _ _=>0
 | .when _ _ _ _ a b=>1+max (fF a) (fF b)
 | .times _ _ _ b=>1+fF b
def fF:List Rw->Nat
 | []=>0
 | r :: rs=>max (qR r) (fF rs)
end
theorem iS:∀ (rs qs:List Rw),fF (rs++qs)=max (fF rs) (fF qs)
 | [],qs=>by simp [fF]
 | r :: rs,qs=>by simp only [List.cons_append,fF,iS rs qs];omega
theorem aF2:∀ {rs:List Rw}{r:Rw},r∈rs->qR r<=fF rs
 | [],_,h=>absurd h List.not_mem_nil
 | q :: rs,r,h=>by
  simp only [fF];rcases List.mem_cons.mp h with e | e
  ·rw [e];omega
  ·have:=aF2 e;omega
theorem iR.app {xs:List Str}{rs qs:List Rw}(a:iR xs rs) (b:iR xs qs):iR xs (rs++qs):=fun r h=>by
 rw [gZ] at h;rcases List.mem_append.mp h with e | e
 ·exact a r e
 ·exact b r e
theorem iR.nil {xs:List Str}:iR xs []:=fun r h=>absurd h List.not_mem_nil
theorem iR.one {xs:List Str}{r:Rw}(a:xQ xs r) (b:iR xs r.kids):iR xs [r]:=fun q h=>by
 have e:bK [r]=r.flat++[]:=rfl;rw [e,List.append_nil,uR] at h;rcases List.mem_cons.mp h with e | e
 ·rw [e];exact a
 ·exact b q e
def cb:Nat->Nat
 | 0=>5
 | 1=>35
 | 2=>215
 | _=>1295
def pb:Nat->Nat
 | 0=>1
 | m+1=>1+2 * cb m
mutual
def mW:Rw->Nat
 | .thr _ _ _ _=>1
 | .lt _ _ _=>0
 | .tell _ _=>0
 | .when _ _ _ _ a b=>iZ a+iZ b
 | .times _ _ n b=>n.toNat * iZ b
def iZ:List Rw->Nat
 | []=>0
 | r :: rs=>mW r+iZ rs
end
theorem jM:∀ (rs qs:List Rw),iZ (rs++qs)=iZ rs+iZ qs
 | [],qs=>by simp [iZ]
 | r :: rs,qs=>by simp only [List.cons_append,iZ,jM rs qs];omega
def KdR (kd:Int):Rw->Prop
 | .thr _ _ _ d=>(d.kd:Int)=kd
 | .lt _ _ _=>True
 | .tell _ _=>True
 | .when _ _ _ _ _ _=>True
 | .times _ _ n _=>1<=n/\n<=3
def iE (kd:Int) (rs:List Rw):Prop:=∀ r∈bK rs,KdR kd r
theorem iE.app {kd:Int}{rs qs:List Rw}(a:iE kd rs) (b:iE kd qs):iE kd (rs++qs):=fun r h=>by
 rw [gZ] at h;rcases List.mem_append.mp h with e | e
 ·exact a r e
 ·exact b r e
theorem iE.nil {kd:Int}:iE kd []:=fun r h=>absurd h List.not_mem_nil
theorem iE.one {kd:Int}{r:Rw}(a:KdR kd r) (b:iE kd r.kids):iE kd [r]:=fun q h=>by
 have e:bK [r]=r.flat++[]:=rfl;rw [e,List.append_nil,uR] at h;rcases List.mem_cons.mp h with e | e
 ·rw [e];exact a
 ·exact b q e
def Lt (x:Str):Prop:=∀ c∈x.cps.toList,c < 200
def spNames:Sp:=fun vs H Q _=>∃ (d l:Addr) (m:Int),vs=[.ref d,.int m]/\eB H d l/\0<=m/\m<=12 /\
 ∀ (r:Addr) (xs:List Str) (H':Hp),eB H' d l->eM d l H H'->H r=none->H' r=some (.lst (xs.map V.str))->(xs.length:Int)=m->(∀ x∈xs,Lt x)->Q (.ref r) H'
def spSumS:Sp:=fun vs H Q _=>∃ (d l:Addr) (m:Int),vs=[.ref d,.int m]/\eB H d l/\0<=m/\m<=3/\∀ (p:Addr) (ws:List Int) (H':Hp),eB H' d l->eM d l H H'->H' p=some (.tup (ws.map V.int))->ws.length=m.toNat->(∀ y∈ws,0<=y/\y<=3)->Q (.ref p) H'
def spStp:Sp:=fun vs H Q _=>∃ (d l:Addr) (b:Bool),vs=[.ref d,.bl b]/\eB H d l /\
 ∀ (p:Addr) (a c:Int) (H':Hp),eB H' d l->eM d l H H'->fH H' p a c->tJ a c->Q (.ref p) H'
def WkT (kvs:List (Key×V)) (kd:Int):Prop:=(∃ n:Int,cM kvs (Sum.inr "wide": Key)=some (.int n)/\0<=n/\n<=6)/\cM kvs (Sum.inr "kinds": Key)=some (.int kd)/\0<=kd/\kd<=3
def spThrow:Sp:=fun vs H Q _=>∃ (d l sc:Addr) (kvs:List (Key×V)) (x:Str) (kd:Int),vs=[.ref d,.ref sc,.str x]/\eB H d l/\H sc=some (.dK kvs)/\WkT kvs kd/\sc≠d /\
 ∀ (p:Addr) (w:Str) (ws:TD) (H':Hp),eB H' d l->eM d l H H'->H' p=some (.tup (.str w :: .str x :: ws.vs))->iQ H' w ws->(ws.kd:Int)=kd->Q (.ref p) H'
def cB0 (n:Nat):Sp:=fun vs H Q _=>∃ (d l kn:Addr) (ks:List Str) (room:Int),vs=[.ref d,.ref kn,.int room]/\eB H d l/\H kn=some (.lst (ks.map V.str))/\kn≠l/\ks.length<=10000/\1<=room/\room<=64/\room<=n /\
 ∀ (t:Tm) (H':Hp),eB H' d l->eM d l H H'->nK H' t->(∀ x∈t.names,x∈ks)->(t.size:Int)<=room->Q (.ref t.p) H'
def aU3:Nat->Sp
 | 0=>fun _ _ _ _=>False
 | n+1=>cB0 (n+1)
def aZ0 (m:Nat):Sp:=fun vs H Q _=>∃ (d l sc nl kn:Addr) (xs ks:List Str) (kd lf deep often:Int),vs=[.ref d,.ref sc,.ref kn,.int deep,.int often]/\Wd H d l sc nl xs kd lf/\1<=often/\H kn=some (.lst (ks.map V.str))/\kn≠l/\(∀ y∈ks,y∈xs)/\ks.length+pb m<=5000/\m<=3/\deep=(m:Int) /\
 ∀ (p kn':Addr) (r:Rw) (k2:List Str) (lf':Int) (H':Hp),Wd H' d l sc nl xs kd lf'->often * (mW r:Int)+lf'<=lf->iE kd [r]->jN [d,l,sc] H H'->H' p=some (.tup [.ref r.p,.ref kn'])->eT H' r->r.cnt<=pb m->qR r<=m->iR xs [r]->(kn'=kn\/H kn'=none)->kn'≠l->H' kn'=some (.lst (k2.map V.str))->(∀ y∈k2,y∈xs)->k2.length<=ks.length+pb m->Q (.ref p) H'
def zD (m:Nat):Sp:=fun vs H Q _=>∃ (d l sc nl kn:Addr) (xs ks:List Str) (kd lf deep tells often:Int),vs=[.ref d,.ref sc,.ref kn,.int deep,.int tells,.int often]/\Wd H d l sc nl xs kd lf/\1<=often/\H kn=some (.lst (ks.map V.str))/\kn≠l/\(∀ y∈ks,y∈xs)/\ks.length+cb m<=5000/\0<=tells/\tells<=2/\m<=3/\deep=(m:Int) /\
 ∀ (p pr kn':Addr) (rs:List Rw) (k2:List Str) (lf':Int) (H':Hp),Wd H' d l sc nl xs kd lf'->often * (iZ rs:Int)+lf'<=lf->iE kd rs->jN [d,l,sc] H H'->H' p=some (.tup [.ref pr,.ref kn'])->H' pr=some (.tup (cI rs))->bL H' rs->cU rs<=cb m->fF rs<=m->iR xs rs->(kn'=kn\/H kn'=none)->kn'≠l->H' kn'=some (.lst (k2.map V.str))->(∀ y∈k2,y∈xs)->k2.length<=ks.length+cb m->Q (.ref p) H'
def bF2:Nat->Sp
 | 0=>fun _ _ _ _=>False
 | m+1=>zD m
structure jR (H:Hp) (p:Addr) (xs:List Str) (rs:List Rw):Prop where
 ex:∃ v pr,H p=some (.tup [v,.ref pr])/\H pr=some (.tup (cI rs))
 kn:∃ (pk:Addr) (ks:List Str) (w:V),H p=some (.tup [.ref pk,w])/\H pk=some (.tup (ks.map V.str))/\1<=ks.length/\ks.length<=3/\iE (ks.length:Int) rs
 ld:iZ rs<=6
 rows:bL H rs
 cnt:cU rs<=1300
 dp:fF rs<=3
 ok:iR xs rs
 xl:xs.length<=12
 so:∀ x∈xs,Lt x
theorem jR.ts {H H':Hp}{p:Addr}{xs:List Str}{rs:List Rw}(t:TS H H') (P:jR H p xs rs):jR H' p xs rs :=
 ⟨let ⟨v,pr,a,c⟩:=P.ex;⟨v,pr,t _ _ a,t _ _ c⟩,let ⟨pk,ks,w,a,b,c⟩:=P.kn;⟨pk,ks,w,t _ _ a,t _ _ b,c⟩,P.ld,bL.ts t rs P.rows,P.cnt,P.dp,P.ok,P.xl,P.so⟩
def spPrg:Sp:=fun vs H Q _=>∃ (d l:Addr),vs=[.ref d,.int 3,.int 6,.int 6]/\eB H d l /\
 ∀ (p:Addr) (xs:List Str) (rs:List Rw) (H':Hp),eB H' d l->eM d l H H'->jR H' p xs rs->Q (.ref p) H'
def spChn:Sp:=fun vs H Q _=>∃ (d l:Addr),vs=[.ref d]/\eB H d l /\
 ∀ (p:Addr) (xs:List Str) (rs:List Rw) (H':Hp),eB H' d l->eM d l H H'->jR H' p xs rs->Q (.ref p) H'
def spParts:Sp:=fun vs H Q _=>∃ t:Tm,vs=[.ref t.p]/\nK H t/\t.size<=900/\∀ (r:Addr) (H':Hp),aZ H H'->H r=none->H' r=some (.lst (t.pre.map fun u=>V.ref u.p))->Q (.ref r) H'
def spNamesIn:Sp:=fun vs H Q _=>∃ t:Tm,vs=[.ref t.p]/\nK H t/\t.size<=900/\∀ (r:Addr) (H':Hp),aZ H H'->H' r=some (.lst (t.names.map V.str))->Q (.ref r) H'
def spSetsN:Sp:=fun vs H Q _=>∃ r:Rw,vs=[.ref r.p]/\eT H r/\Q (.bl r.sets.isSome) H
def spAsked:Sp:=fun vs H Q _=>∃ (r:Rw) (xs:List Str),vs=[.ref r.p]/\eT H r/\xQ xs r/\∀ (q:Addr) (H':Hp),aZ H H'->H' q=some (.lst (r.asked.map V.str))->Q (.ref q) H'
def kI (H:Hp) (z:V) (s:Stp):Prop:=∃ q,z= .ref q/\H q=some (.tup [.str s.1,.ref s.2.p])
def fS (H:Hp) (z:V) (s:Stp):Prop:=∃ q n,z= .ref q/\H q=some (.tup [.str s.1,.ref s.2.p,.int n])
theorem kI.ts {H H':Hp}(t:TS H H') {z:V}{s:Stp}(h:kI H z s):kI H' z s:=let ⟨q,e,k⟩:=h;⟨q,e,t _ _ k⟩
theorem fS.ts {H H':Hp}(t:TS H H') {z:V}{s:Stp}(h:fS H z s):fS H' z s:=let ⟨q,n,e,k⟩:=h;⟨q,n,e,t _ _ k⟩
def spAsS:Sp:=fun vs H Q _=>∃ (p:Addr) (rs:List Rw),vs=[.ref p]/\H p=some (.tup (cI rs))/\rs.length<=4000 /\
 ∀ (r:Addr) (zs:List V) (H':Hp),aZ H H'->H' r=some (.lst zs)->dP (kI H') zs (rs.map fun r=>(("row": Str),r))->Q (.ref r) H'
def spInner:Sp:=fun vs H Q _=>∃ (r:Rw),vs=[.ref r.p]/\eT H r/\r.cnt<=4000 /\
 ∀ (q:Addr) (zs:List V) (H':Hp),aZ H H'->H' q=some (.lst zs)->dP (kI H') zs (gM r)->Q (.ref q) H'
def spSteps:Sp:=fun vs H Q _=>∃ (p:Addr) (rs:List Rw),vs=[.ref p]/\H p=some (.tup (cI rs))/\bL H rs/\cU rs<=4000 /\
 ∀ (r:Addr) (zs:List V) (H':Hp),aZ H H'->H r=none->H' r=some (.lst zs)->dP (fS H') zs (iP rs)->Q (.ref r) H'
def spRowsIn:Sp:=fun vs H Q _=>∃ (p:Addr) (xs:List Str) (rs:List Rw),vs=[.ref p]/\jR H p xs rs /\
 ∀ (r:Addr) (H':Hp),aZ H H'->H r=none->H' r=some (.lst (cI (bK rs)))->Q (.ref r) H'
inductive jS (fl:List Rw):Str->Prop where
 | base {r:Rw}{x:Str}(h:r∈fl) (m:x∈r.told):jS fl x
 | step {p:Addr}{y x:Str}{t:Tm}(h:Rw.lt p y t∈fl) (n:jS fl y) (m:x∈t.names):jS fl x
def BhV (H:Hp) (kvs:List (Key×V)) (fl:List Rw) (x:Str):Prop:=(cM kvs (Sum.inr x:Key)=none/\fl.flatMap (Rw.lets x)=[])\/∃ l,cM kvs (Sum.inr x:Key)=some (.ref l)/\H l=some (.lst ((fl.flatMap (Rw.lets x)).map V.str))
def Bh (H:Hp) (d:Addr) (fl:List Rw):Prop:=∃ kvs,H d=some (.dK kvs)/\∀ x,BhV H kvs fl x
theorem Bh.same {H H':Hp}(s:aZ H H') {d:Addr}{fl:List Rw}(h:Bh H d fl):Bh H' d fl:=by
 obtain ⟨kvs,e,a⟩:=h;refine ⟨kvs,s _ _ e,fun x=>?_⟩;rcases a x with h | ⟨l,h1,h2⟩
 ·exact .inl h
 ·exact .inr ⟨l,h1,s _ _ h2⟩
def spNB:Sp:=fun vs H Q _=>∃ (lr:Addr) (xs:List Str) (fl:List Rw),vs=[.ref lr]/\H lr=some (.lst (cI fl))/\bL H fl/\(∀ r∈fl,xQ xs r)/\fl.length<=1300 /\
 ∀ (d:Addr) (H':Hp),aZ H H'->H d=none->Bh H' d fl->Q (.ref d) H'
structure NdS (rs:List Rw) (ss:List Str):Prop where
 nd:ss.Nodup
 st:PyProof.Rows.sortedS ss=true
 mem:∀ x,x∈ss↔jS (bK rs) x
theorem NdS.eq {rs:List Rw}{ss ts:List Str}(a:NdS rs ss) (b:NdS rs ts):ss=ts:=wA a.nd b.nd (fun x=>(a.mem x).trans (b.mem x).symm) a.st b.st
def spNeeded:Sp:=fun vs H Q _=>∃ (p:Addr) (xs:List Str) (rs:List Rw),vs=[.ref p]/\jR H p xs rs /\
 ∀ (r:Addr) (ss:List Str) (H':Hp),aZ H H'->H' r=some (.tup (ss.map V.str))->NdS rs ss->Q (.ref r) H'
def kZ (ss:List Str) (r:Rw):Bool:=match r.sets with
 | some x=> !decide (x∈ss)
 | none=>false
def spIsI:Sp:=fun vs H Q _=>∃ (r:Rw) (np:Addr) (ss:List Str),vs=[.ref r.p,.ref np]/\eT H r/\H np=some (.tup (ss.map V.str))/\Q (.bl (kZ ss r)) H
def bO3 (n:Nat):Sp:=fun vs H Q _=>∃ (p:Addr) (rs:List Rw),vs=[.ref p]/\H p=some (.tup (cI rs))/\bL H rs/\cU rs<=4000/\fF rs < n /\
 ∀ (r:Addr) (H':Hp),aZ H H'->H r=none->H' r=some (.lst (cI (bK rs)))->Q (.ref r) H'
def xA:Nat->Sp
 | 0=>fun _ _ _ _=>False
 | n+1=>bO3 (n+1)
def bV4 (n:Nat):Sp:=fun vs H Q _=>∃ t:Tm,vs=[.ref t.p]/\nK H t/\t.size<=7/\t.size<=n /\
 ∀ (r:Addr) (H':Hp),aZ H H'->H' r=some (.lst (t.names.map V.str))->Q (.ref r) H'
def aC6:Nat->Sp
 | 0=>fun _ _ _ _=>False
 | n+1=>bV4 (n+1)
def spLNd:Sp:=fun vs H Q _=>∃ (p:Addr) (xs:List Str) (rs:List Rw),vs=[.ref p]/\jR H p xs rs /\
 ∀ (r:Addr) (ss:List Str) (H':Hp),aZ H H'->H' r=some (.lst (ss.map V.str))->NdS rs ss->Q (.ref r) H'
def spLId:Sp:=fun vs H Q _=>∃ (r:Rw) (np:Addr) (ss:List Str),vs=[.ref r.p,.ref np]/\eT H r/\H np=some (.lst (ss.map V.str))/\∀ H',aZ H H'->Q (.bl (kZ ss r)) H'
def spRgt:Sp:=fun vs H Q _=>∃ (p:Addr) (xs:List Str) (rs:List Rw),vs=[.ref p]/\jR H p xs rs/\∀ H',aZ H H'->Q (.bl true) H'
theorem eY {n:Nat}(h:n<=9000000):n < sizeLine:=by rw [sizeLine_eq];omega
theorem aD9:∀ l:List Tm,l.length<=(l.flatMap Tm.pre).length
 | []=>Nat.le_refl _
 | t :: r=>by have:=aD9 r;have:=t.size_pos;rw [List.length_cons,List.flatMap_cons,List.length_append,Tm.pre_len];omega
theorem cD9:¬ (V.str "num"=V.str "op"):=by decide +kernel
theorem cF5:¬ (V.str "name"=V.str "op"):=by decide +kernel
theorem wOM:¬ (V.str "op"=V.str "name"):=by decide +kernel
theorem wTW:¬ (V.str "times"=V.str "when"):=by decide +kernel
theorem wLW:¬ (V.str "let"=V.str "when"):=by decide +kernel
theorem wLT:¬ (V.str "let"=V.str "times"):=by decide +kernel
theorem wEW:¬ (V.str "tell"=V.str "when"):=by decide +kernel
theorem wET:¬ (V.str "tell"=V.str "times"):=by decide +kernel
theorem bQ3 {w:Str}(h:w∈dZ):¬ (V.str w=V.str "when"):=fun z=>by
 have e:w="when":=by injection z
 rw [e] at h;exact absurd h (by decide +kernel)
theorem bN0 {w:Str}(h:w∈dZ):¬ (V.str w=V.str "times"):=fun z=>by
 have e:w="times":=by injection z
 rw [e] at h;exact absurd h (by decide +kernel)
theorem jG {v:V}{r:List V}:jA (v :: r) 0=some v:=by
 unfold jA ixN;rw [if_pos (Int.le_refl 0),if_pos (by rw [List.length_cons];omega)];rfl
theorem bW (rs:List Rw):(cI rs).length=rs.length:=List.length_map _
theorem jH {rs:List Rw}{i:Nat}{v:V}(h:(cI rs)[i]?=some v):∃ r,v= .ref r.p/\rs[i]?=some r:=by
 unfold cI at h;rw [List.getElem?_map] at h
 cases e:rs[i]? with
 | none=>rw [e] at h;cases h
 | some r=>rw [e] at h;exact ⟨r,(Option.some.inj h).symm,rfl⟩
theorem fX (rs qs:List Rw):cI (rs++qs)=cI rs++cI qs:=List.map_append ..
theorem iN {α: Type}{R:V->α->Prop}:∀ {vs:List V}{as:List α}{i:Nat}{v:V},dP R vs as->vs[i]?=some v->∃ a,as[i]?=some a/\R v a
 | [],[],i,v,_,h=>by cases h
 | v :: vs,a :: as,0,_,⟨e,_⟩,h=>by cases h;exact ⟨a,rfl,e⟩
 | v :: vs,a :: as,i+1,x,⟨_,r⟩,h=>by
  obtain ⟨b,h1,h2⟩:=iN (i:=i) (v:=x) r (by simpa using h);exact ⟨b,by simpa using h1,h2⟩
 | [],_ :: _,_,_,z,_=>z.elim
 | _ :: _,[],_,_,z,_=>z.elim
theorem oM {α: Type}{R:V->α->Prop}:∀ {vs:List V}{as:List α},dP R vs as->dP R vs.reverse as.reverse
 | [],[],_=>trivial
 | v :: vs,a :: as,⟨e,r⟩=>by
  rw [List.reverse_cons,List.reverse_cons];exact dP.append (oM r) ⟨e,trivial⟩
 | [],_ :: _,z=>z.elim
 | _ :: _,[],z=>z.elim
theorem qC {α: Type}{R:V->α->Prop}:∀ {as:List α}{vs:List V}{a:α},dP R vs (as++[a])->∃ us v,vs=us++[v]/\dP R us as/\R v a
 | [],[v],a,⟨e,_⟩=>⟨[],v,rfl,trivial,e⟩
 | [],_ :: _ :: _,_,⟨_,z⟩=>z.elim
 | [],[],_,z=>z.elim
 | b :: bs,[],_,z=>z.elim
 | b :: bs,v :: vs,a,⟨e,r⟩=>by
  obtain ⟨us,u,h1,h2,h3⟩:=qC (as:=bs) r;exact ⟨v :: us,u,by rw [h1];rfl,⟨e,h2⟩,h3⟩
theorem aS9 (r:Rw):1<=(iH r).length:=by rw [zV];simp
theorem aB0 (s:Stp):1<=(expd s).length:=by
 unfold expd
 split
 ·exact aS9 _
 ·simp
theorem yL:∀ l:List Stp,l.length<=(l.flatMap expd).length
 | []=>Nat.le_refl _
 | t :: r=>by have:=yL r;have:=aB0 t;rw [List.length_cons,List.flatMap_cons,List.length_append];omega
theorem oH:∀ {rs:List Rw}{r:Rw},r∈rs->r.cnt<=cU rs
 | [],_,h=>absurd h List.not_mem_nil
 | q :: rs,r,h=>by
  simp only [cU];rcases List.mem_cons.mp h with e | e
  ·rw [e];omega
  ·have:=oH e;omega
theorem aJ8:∀ {r:Rw}{s:Stp},s∈gM r->s.2=r\/s.2∈r.kids
 | .when p pa pb t a b,s,h=>by
  simp only [gM,List.mem_append,List.mem_map,List.mem_singleton] at h;rcases h with ((⟨x,hx,e⟩ | e) | ⟨x,hx,e⟩) | e
  ·right;rw [<- e];exact List.mem_append_left _ hx
  ·left;rw [e]
  ·right;rw [<- e];exact List.mem_append_right _ hx
  ·left;rw [e]
 | .times p pb n b,s,h=>by
  simp only [gM,List.mem_append,List.mem_map,List.mem_singleton] at h;rcases h with ⟨x,hx,e⟩ | e
  ·right;rw [<- e];exact hx
  ·left;rw [e]
 | .thr _ _ _ _,_,h=>absurd h List.not_mem_nil
 | .lt _ _ _,_,h=>absurd h List.not_mem_nil
 | .tell _ _,_,h=>absurd h List.not_mem_nil
theorem aZ5 {H:Hp}{r:Rw}(h:eT H r) (hc:r.cnt<=4000) {s:Stp}(m:s∈gM r):eT H s.2/\s.2.cnt<=4000:=by
 rcases aJ8 m with e | e
 ·rw [e];exact ⟨h,hc⟩
 ·have:=oH e;have:=aX7 r;exact ⟨h.kids.mem _ e,by omega⟩
theorem cJ (w:Str) (xs:List Str):lC (.str w) (xs.map V.str)=decide (w∈xs):=by
 unfold lC;rw [List.any_map]
 induction xs with
 | nil=>rfl
 | cons x r ih =>
  rw [List.any_cons,ih];have e:(eqV (V.str x) (V.str w))=decide (x=w):=rfl;show (eqV (V.str x) (V.str w) || _)=_;rw [e]
  by_cases c:x=w
  ·simp [c]
  ·have c2:¬ w=x:=fun z=>c z.symm
   simp [c,c2]
theorem eA (xs:List Str):(xs.map V.str).all kX=true:=sI xs
theorem mH {xs:List Str}{i:Nat}{v:V}(h:(xs.map V.str)[i]?=some v):∃ x,v= .str x/\xs[i]?=some x:=by
 rw [List.getElem?_map] at h
 cases e:xs[i]? with
 | none=>rw [e] at h;cases h
 | some r=>rw [e] at h;exact ⟨r,(Option.some.inj h).symm,rfl⟩
theorem aY6 {r x y z:Int}(h0:0<=r) (h1:r < 3):∃ w,jA [V.int x,V.int y,V.int z] r=some (.int w)/\(w=x\/w=y\/w=z):=by
 have:r=0\/r=1\/r=2:=by omega
 rcases this with rfl | rfl | rfl
 ·exact ⟨x,rfl,.inl rfl⟩
 ·exact ⟨y,rfl,.inr (.inl rfl)⟩
 ·exact ⟨z,rfl,.inr (.inr rfl)⟩
theorem bS5 {r:Int}(h0:0<=r) (h1:r < 5):∃ c,jA ("+-*<=": Str).cps.toList r=some c/\(⟨#[c]⟩:Str)∈cG2:=by
 have:r=0\/r=1\/r=2\/r=3\/r=4:=by omega
 rcases this with rfl | rfl | rfl | rfl | rfl
 ·exact ⟨43,rfl,by decide +kernel⟩
 ·exact ⟨45,rfl,by decide +kernel⟩
 ·exact ⟨42,rfl,by decide +kernel⟩
 ·exact ⟨60,rfl,by decide +kernel⟩
 ·exact ⟨61,rfl,by decide +kernel⟩
theorem zM {α: Type}{xs:List α}{r:Int}(h0:0<=r) (h1:r < (xs.length:Int)):∃ v,xs[r.toNat]?=some v/\jA xs r=some v:=by
 have hk:r.toNat < xs.length:=by omega
 refine ⟨_,List.getElem?_eq_getElem hk,?_⟩;have q:=fW (List.getElem?_eq_getElem hk);rw [Int.toNat_of_nonneg h0] at q;exact q
theorem aG8 (xs:List Str) (lo hi:Option Int):∃ ys:List Str,gH (xs.map V.str) lo hi=ys.map V.str/\ys.length<=xs.length/\(∀ y∈ys,y∈xs):=by
 refine ⟨(xs.drop (HT.sIx xs.length 0 lo)).take (HT.sIx xs.length xs.length hi - HT.sIx xs.length 0 lo),?_,?_,fun y hy=>?_⟩
 ·unfold gH;rw [List.length_map,List.map_take,List.map_drop]
 ·rw [List.length_take,List.length_drop];omega
 ·exact List.mem_of_mem_drop (List.mem_of_mem_take hy)
theorem nY {H H1 H2:Hp}{d l sc:Addr}(o:eM d l H H1) (n:H sc=none) (o2:jN [d,l,sc] H1 H2):eM d l H H2:=fun b u e h1 h2=>by
 refine o2 b u (o b u e h1 h2) fun m=>?_
 simp only [List.mem_cons,List.not_mem_nil,or_false] at m;rcases m with m | m | m
 ·exact h1 m
 ·exact h2 m
 ·rw [m,n] at e;cases e
theorem wMN:¬ (V.str "num"=V.str "name"):=by decide +kernel
theorem wTL:¬ (V.str "tell"=V.str "let"):=by decide +kernel
theorem wWL:¬ (V.str "when"=V.str "let"):=by decide +kernel
theorem wML:¬ (V.str "times"=V.str "let"):=by decide +kernel
theorem bW8 {w:Str}(h:w∈dZ):¬ (V.str w=V.str "let"):=fun z=>by
 have e:w="let":=by injection z
 rw [e] at h;exact absurd h (by decide +kernel)
theorem bN9 {w:Str}(h:w∈dZ):¬ (lC (V.str w) [.str "tell",.str "when"]=true):=by
 rw [show ([V.str "tell",V.str "when"]:List V)=(["tell","when"]:List Str).map V.str from rfl,cJ];simp only [dZ,List.mem_cons,List.not_mem_nil,or_false] at h;rcases h with rfl | rfl | rfl | rfl <;> decide +kernel
theorem sA {n:Nat}(h:n < 16777216):n < sizeLine:=by rw [sizeLine_eq];exact h
theorem cB2 {m:Nat}(hm:m<=3):cb m=3 * pb m+2:=by
 have:m=0\/m=1\/m=2\/m=3:=by omega
 rcases this with rfl | rfl | rfl | rfl <;> rfl
theorem aY2 (m:Nat):cb m<=1295:=by
 unfold cb
 split <;> decide
theorem aQ1 (m:Nat):1<=pb m:=by cases m <;> simp [pb]
theorem aC3 {r x y:Int}(h0:0<=r) (h1:r < 2):∃ w,jA [V.int x,V.int y] r=some (.int w)/\(w=x\/w=y):=by
 have:r=0\/r=1:=by omega
 rcases this with rfl | rfl
 ·exact ⟨x,rfl,.inl rfl⟩
 ·exact ⟨y,rfl,.inr rfl⟩
theorem xQ.asked {xs:List Str}{r:Rw}(h:xQ xs r):r.asked.length<=7/\∀ y∈r.asked,y∈xs:=by
 cases r with
 | lt p x t=>have:=h t (List.mem_singleton.mpr rfl);have:=t.names_len;exact ⟨by show t.names.length<=7;omega,(h t (List.mem_singleton.mpr rfl)).2⟩
 | tell p t=>have:=h t (List.mem_singleton.mpr rfl);have:=t.names_len;exact ⟨by show t.names.length<=7;omega,(h t (List.mem_singleton.mpr rfl)).2⟩
 | when p pa pb t a b=>have:=h t (List.mem_singleton.mpr rfl);have:=t.names_len;exact ⟨by show t.names.length<=7;omega,(h t (List.mem_singleton.mpr rfl)).2⟩
 | times p pb n b=>exact ⟨Nat.zero_le _,fun y hy=>absurd hy List.not_mem_nil⟩
 | thr p w x vs=>exact ⟨Nat.zero_le _,fun y hy=>absurd hy List.not_mem_nil⟩
theorem aW4 (r:Rw):∀ x∈r.told,x∈r.asked:=by
 cases r <;> intro x h <;> first | exact h | exact absurd h List.not_mem_nil
theorem aW8 (r:Rw):r.told.length<=r.asked.length:=by
 cases r <;> first | exact Nat.le_refl _ | exact Nat.zero_le _
theorem aU8 (x:Str) (r:Rw):(r.lets x).length<=r.asked.length:=by
 cases r with
 | lt p z t=>simp only [Rw.lets,Rw.asked];split;exact Nat.le_refl _;exact Nat.zero_le _
 | _=>exact Nat.zero_le _
theorem zK {α: Type}{f:Rw->List α}{c:Nat}:∀ {fl:List Rw},(∀ r∈fl,(f r).length<=c)->(fl.flatMap f).length<=c * fl.length
 | [],_=>Nat.zero_le _
 | r :: rs,h=>by
  have:=zK (f:=f) (c:=c) (fl:=rs) fun q hq=>h q (List.mem_cons_of_mem _ hq)
  have:=h r List.mem_cons_self;rw [List.flatMap_cons,List.length_append,List.length_cons,Nat.mul_succ];omega
theorem aD3 {α: Type}{f:Rw->List α}{fl:List Rw}{i:Nat}{r:Rw}(h:fl[i]?=some r):(fl.take (i+1)).flatMap f=(fl.take i).flatMap f++f r:=by
 rw [bF h,List.flatMap_append];simp
theorem kM {xs:List Str}{fl:List Rw}(ok:∀ r∈fl,xQ xs r):(fl.flatMap Rw.told).length<=7 * fl.length:=zK fun r h=>Nat.le_trans (aW8 r) (ok r h).asked.1
theorem mM {xs:List Str}{fl:List Rw}(ok:∀ r∈fl,xQ xs r) (x:Str):(fl.flatMap (Rw.lets x)).length<=7 * fl.length:=zK fun r h=>Nat.le_trans (aU8 x r) (ok r h).asked.1
theorem oN {xs:List Str}{fl:List Rw}(ok:∀ r∈fl,xQ xs r) {x:Str}(h:jS fl x):x∈xs:=by
 cases h with
 | base h m=>exact (ok _ h).asked.2 _ (aW4 _ _ m)
 | step h n m=>exact (ok _ h).asked.2 _ m
theorem aF8 {fl:List Rw}{y x:Str}(n:jS fl y) (h:x∈fl.flatMap (Rw.lets y)):jS fl x:=by
 obtain ⟨r,hr,hx⟩:=List.mem_flatMap.mp h
 cases r with
 | lt p z t =>
  simp only [Rw.lets] at hx
  split at hx
  ·rename_i e;subst e;exact .step hr n hx
  ·exact absurd hx List.not_mem_nil
 | _=>exact absurd hx List.not_mem_nil
theorem rL {fl:List Rw}{x:Str}(h:x∈fl.flatMap Rw.told):jS fl x:=let ⟨_,hr,hx⟩:=List.mem_flatMap.mp h; .base hr hx
structure WL (fl:List Rw) (fs ws:List Str):Prop where
 need:∀ x,x∈fs\/x∈ws->jS fl x
 base:∀ x∈fl.flatMap Rw.told,x∈fs\/x∈ws
 more:∀ y∈fs,∀ x∈fl.flatMap (Rw.lets y),x∈fs\/x∈ws
 nd:fs.Nodup
theorem WL.init (fl:List Rw):WL fl [] (fl.flatMap Rw.told):=⟨fun x h=>by
 rcases h with h | h
 ·exact absurd h List.not_mem_nil
 ·exact rL h,fun x h=> .inr h,fun y h=>absurd h List.not_mem_nil,List.nodup_nil⟩
theorem WL.skip {fl:List Rw}{fs ws:List Str}{x:Str}(h:WL fl fs (ws++[x])) (m:x∈fs):WL fl fs ws:=by
 have key:∀ y,(y∈fs\/y∈ws++[x])->y∈fs\/y∈ws:=fun y hy=>by
  rcases hy with e | e
  ·exact .inl e
  ·rcases List.mem_append.mp e with e | e
   ·exact .inr e
   ·rw [List.mem_singleton.mp e];exact .inl m
 exact ⟨fun y hy=>h.need y (by rcases hy with e | e;exact .inl e;exact .inr (List.mem_append_left _ e)),fun y hy=>key y (h.base y hy),fun z hz y hy=>key y (h.more z hz y hy),h.nd⟩
theorem WL.take {fl:List Rw}{fs ws:List Str}{x:Str}(h:WL fl fs (ws++[x])) (m:x∉fs):WL fl (fs++[x]) (ws++fl.flatMap (Rw.lets x)):=by
 have nx:jS fl x:=h.need x (.inr (by simp));have key:∀ y,(y∈fs\/y∈ws++[x])->y∈fs++[x]\/y∈ws++fl.flatMap (Rw.lets x):=fun y hy=>by
  rcases hy with e | e
  ·exact .inl (List.mem_append_left _ e)
  ·rcases List.mem_append.mp e with e | e
   ·exact .inr (List.mem_append_left _ e)
   ·exact .inl (List.mem_append_right _ e)
 refine ⟨fun y hy=>?_,fun y hy=>key y (h.base y hy),fun z hz y hy=>?_,?_⟩
 ·rcases hy with e | e
  ·rcases List.mem_append.mp e with e | e
   ·exact h.need y (.inl e)
   ·rw [List.mem_singleton.mp e];exact nx
  ·rcases List.mem_append.mp e with e | e
   ·exact h.need y (.inr (List.mem_append_left _ e))
   ·exact aF8 nx e
 ·rcases List.mem_append.mp hz with e | e
  ·exact key y (h.more z e y hy)
  ·rw [List.mem_singleton.mp e] at hy;exact .inr (List.mem_append_right _ hy)
 ·rw [List.nodup_append];refine ⟨h.nd,by simp,fun a ha b hb e=>m ?_⟩;rw [<- List.mem_singleton.mp hb, <- e];exact ha
theorem WL.done {fl:List Rw}{fs:List Str}(h:WL fl fs []) (x:Str):x∈fs↔jS fl x:=by
 refine ⟨fun m=>h.need x (.inl m),fun n=>?_⟩;have key:∀ y,(y∈fs\/y∈([]:List Str))->y∈fs:=fun y hy=>by
  rcases hy with e | e
  ·exact e
  ·exact absurd e List.not_mem_nil
 induction n with
 | base h1 m=>exact key _ (h.base _ (List.mem_flatMap.mpr ⟨_,h1,m⟩))
 | step h1 _ m ih=>exact key _ (h.more _ ih _ (List.mem_flatMap.mpr ⟨_,h1,by simp only [Rw.lets];rw [if_pos trivial];exact m⟩))
def pot (fl:List Rw) (xs fs:List Str):Nat:=((xs.filter fun x=> !decide (x∈fs)).map fun x=>(fl.flatMap (Rw.lets x)).length).sum
theorem wG (fl:List Rw) (fs:List Str) (x:Str):∀ xs:List Str,pot fl xs (fs++[x])<=pot fl xs fs
 | []=>Nat.le_refl _
 | z :: r=>by
  have ih:=wG fl fs x r;unfold pot at ih ⊢
  by_cases c:z∈fs
  ·rw [List.filter_cons_of_neg (by simp [c]),List.filter_cons_of_neg (by simp [c])];exact ih
  ·by_cases d:z=x
   ·rw [List.filter_cons_of_neg (by simp [d]),List.filter_cons_of_pos (by simp [c])];rw [List.map_cons,List.sum_cons];omega
   ·rw [List.filter_cons_of_pos (by simp [c,d]),List.filter_cons_of_pos (by simp [c])];rw [List.map_cons,List.sum_cons,List.map_cons,List.sum_cons];omega
theorem vV (fl:List Rw) {fs:List Str}{x:Str}(hf:x∉fs):∀ {xs:List Str},x∈xs->pot fl xs (fs++[x])+(fl.flatMap (Rw.lets x)).length<=pot fl xs fs
 | [],h=>absurd h List.not_mem_nil
 | z :: r,h=>by
  have mo:=wG fl fs x r
  by_cases d:z=x
  ·unfold pot at mo ⊢;rw [List.filter_cons_of_neg (by simp [d]),List.filter_cons_of_pos (by simp [d,hf])];rw [List.map_cons,List.sum_cons,d];omega
  ·have ih:=vV fl hf (xs:=r) (by rcases List.mem_cons.mp h with e | e;exact absurd e.symm d;exact e);unfold pot at ih ⊢
   by_cases c:z∈fs
   ·rw [List.filter_cons_of_neg (by simp [c]),List.filter_cons_of_neg (by simp [c])];exact ih
   ·rw [List.filter_cons_of_pos (by simp [c,d]),List.filter_cons_of_pos (by simp [c])];rw [List.map_cons,List.sum_cons,List.map_cons,List.sum_cons];omega
theorem aP7 {ys:List Str}{fl:List Rw}(ok:∀ r∈fl,xQ ys r) (fs:List Str):∀ xs:List Str,pot fl xs fs<=xs.length * (7 * fl.length)
 | []=>Nat.zero_le _
 | z :: r=>by
  have ih:=aP7 ok fs r;have:=mM ok z;unfold pot at ih ⊢;rw [List.length_cons,Nat.succ_mul]
  by_cases c:z∈fs
  ·rw [List.filter_cons_of_neg (by simp [c])];omega
  ·rw [List.filter_cons_of_pos (by simp [c]),List.map_cons,List.sum_cons];omega
def st1 (F:List Str) (r:Rw):List Str:=match r with
 | .lt _ y t=>if y∈F then F++t.names.filter (fun x=> !decide (x∈F)) else F
 | .thr _ _ _ _=>F
 | .tell _ _=>F
 | .when _ _ _ _ _ _=>F
 | .times _ _ _ _=>F
def yQ (fl:List Rw) (F:List Str):List Str:=fl.foldl st1 F
def iI (fl:List Rw):Nat->List Str
 | 0=>fl.flatMap Rw.told
 | n+1=>yQ fl (iI fl n)
theorem aC5 (F:List Str) (r:Rw):∀ x∈F,x∈st1 F r:=by
 intro x h
 cases r with
 | lt p y t=>simp only [st1];split;exact List.mem_append_left _ h;exact h
 | _=>exact h
theorem oI:∀ (fl:List Rw) (F:List Str),∀ x∈F,x∈yQ fl F
 | [],_,_,h=>h
 | r :: rs,F,x,h=>oI rs (st1 F r) x (aC5 F r x h)
theorem aT0 {fl:List Rw}{F:List Str}{r:Rw}(hr:r∈fl) (h:∀ x∈F,jS fl x):∀ x∈st1 F r,jS fl x:=by
 intro x hx
 cases r with
 | lt p y t =>
  simp only [st1] at hx
  split at hx
  ·rename_i hy
   rcases List.mem_append.mp hx with e | e
   ·exact h x e
   ·exact .step hr (h y hy) (List.mem_filter.mp e).1
  ·exact h x hx
 | _=>exact h x hx
theorem wF {fl:List Rw}:∀ (rs:List Rw) (F:List Str),(∀ r∈rs,r∈fl)->(∀ x∈F,jS fl x)->∀ x∈yQ rs F,jS fl x
 | [],_,_,h=>h
 | r :: rs,F,hs,h=>wF rs (st1 F r) (fun q hq=>hs q (List.mem_cons_of_mem _ hq)) (aT0 (hs r List.mem_cons_self) h)
theorem rY (fl:List Rw):∀ n,∀ x∈iI fl n,jS fl x
 | 0=>fun _ h=>rL h
 | n+1=>wF fl (iI fl n) (fun _ h=>h) (rY fl n)
def Sat (F:List Str) (r:Rw):Prop:=∀ p y t,r= .lt p y t->y∈F->∀ x∈t.names,x∈F
def act (fl:List Rw) (F:List Str):Nat:=fl.countP fun r=>match r with
 | .lt _ y _=>decide (y∈F)
 | _=>false
theorem bG2 {F:List Str}{p:Addr}{y:Str}{t:Tm}(h:y∈F):∀ x∈t.names,x∈st1 F (.lt p y t):=by
 intro x hx;simp only [st1];rw [if_pos h]
 by_cases c:x∈F
 ·exact List.mem_append_left _ c
 ·exact List.mem_append_right _ (List.mem_filter.mpr ⟨hx,by simp [c]⟩)
theorem aB3:∀ (fl:List Rw) (F:List Str) {p:Addr}{y:Str}{t:Tm},Rw.lt p y t∈fl->y∈F->∀ x∈t.names,x∈yQ fl F
 | [],_,_,_,_,h,_=>absurd h List.not_mem_nil
 | r :: rs,F,p,y,t,h,hy=>fun x hx=>by
  rcases List.mem_cons.mp h with e | e
  ·subst e;exact oI rs _ x (bG2 hy x hx)
  ·exact aB3 rs (st1 F r) e (aC5 F r y hy) x hx
theorem vB {F G:List Str}(h:∀ x∈F,x∈G):∀ fl:List Rw,act fl F<=act fl G
 | fl=>List.countP_mono_left fun r _ hr=>by
  cases r with
  | lt p y t=>exact decide_eq_true (h y (of_decide_eq_true hr))
  | _=>exact hr
theorem yP {F G:List Str}(h:∀ x∈F,x∈G) {p:Addr}{y:Str}{t:Tm}(h1:y∉F) (h2:y∈G):∀ {fl:List Rw},Rw.lt p y t∈fl->act fl F+1<=act fl G
 | [],m=>absurd m List.not_mem_nil
 | r :: rs,m=>by
  have mo:=vB h rs;rcases List.mem_cons.mp m with e | e
  ·subst e;unfold act at mo ⊢;rw [List.countP_cons_of_neg (by simp [h1]),List.countP_cons_of_pos (by simp [h2])];omega
  ·have ih:=yP h h1 h2 e;have c1:=vB h [r];unfold act at ih c1 ⊢;rw [List.countP_cons,List.countP_cons];rw [List.countP_cons,List.countP_cons,List.countP_nil,List.countP_nil] at c1;omega
theorem bM7 (fl:List Rw) (F:List Str):act fl F<=fl.length:=List.countP_le_length
def Clo (fl:List Rw) (F:List Str):Prop:=∀ r∈fl,Sat F r
theorem zZ {fl:List Rw}{F:List Str}(h:¬ Clo fl F):∃ p y t,Rw.lt p y t∈fl/\y∈F/\∃ x∈t.names,x∉F:=by
 apply Classical.byContradiction
 intro k;refine h fun r hr p y t e hy x hx=>Classical.byContradiction fun c=>k ⟨p,y,t,by rw [<- e];exact hr,hy,x,hx,c⟩
theorem aC9 {fl:List Rw}{F:List Str}(c:Clo fl F):∀ (rs:List Rw),(∀ r∈rs,r∈fl)->yQ rs F=F
 | [],_=>rfl
 | r :: rs,hs=>by
  have e:st1 F r=F:=by
   cases r with
   | lt p y t =>
    simp only [st1]
    split
    ·rename_i hy
     have:t.names.filter (fun x=> !decide (x∈F))=[]:=List.filter_eq_nil_iff.mpr fun x hx=>by
      have:=c _ (hs _ List.mem_cons_self) p y t rfl hy x hx;simp [this]
     rw [this,List.append_nil]
    ·rfl
   | _=>rfl
  show yQ rs (st1 F r)=F;rw [e];exact aC9 c rs fun q hq=>hs q (List.mem_cons_of_mem _ hq)
theorem vM (fl:List Rw):∀ n,¬ Clo fl (iI fl n)->n+1<=act fl (iI fl n)
 | 0,h=>by
  obtain ⟨p,y,t,m,hy,_⟩:=zZ h;have:=yP (F:=[]) (G:=iI fl 0) (fun x hx=>absurd hx List.not_mem_nil) List.not_mem_nil hy m;omega
 | n+1,h=>by
  have h0:¬ Clo fl (iI fl n):=fun c=>h (by
   show Clo fl (yQ fl (iI fl n));rw [aC9 c fl fun _ z=>z];exact c)
  have ih:=vM fl n h0;obtain ⟨p,y,t,m,hy,x,hx,hn⟩:=zZ h;have:=yP (F:=iI fl n) (G:=iI fl (n+1)) (oI fl _) (fun z=>hn (aB3 fl _ m z x hx)) hy m;omega
theorem aJ7 (fl:List Rw) (x:Str):x∈iI fl fl.length↔jS fl x:=by
 refine ⟨rY fl _ x,fun n=>?_⟩;have c:Clo fl (iI fl fl.length):=Classical.byContradiction fun k=>by
  have:=vM fl _ k;have:=bM7 fl (iI fl fl.length);omega
 have sub:∀ n,∀ x∈fl.flatMap Rw.told,x∈iI fl n:=fun n=>by
  induction n with
  | zero=>exact fun _ h=>h
  | succ n ih=>exact fun x h=>oI fl _ x (ih x h)
 induction n with
 | base h1 m=>exact sub _ _ (List.mem_flatMap.mpr ⟨_,h1,m⟩)
 | step h1 _ m ih=>exact c _ h1 _ _ _ rfl ih _ m
theorem bA8 {xs:List Str}{F:List Str}{r:Rw}(ok:xQ xs r):(st1 F r).length<=F.length+7:=by
 cases r with
 | lt p y t =>
  have h:=ok.asked.1;have h:t.names.length<=7:=h;have:=List.length_filter_le (fun x=> !decide (x∈F)) t.names;simp only [st1]
  split
  ·rw [List.length_append];omega
  ·omega
 | _=>exact Nat.le_add_right _ _
theorem uY {xs:List Str}:∀ (fl:List Rw) (F:List Str),(∀ r∈fl,xQ xs r)->(yQ fl F).length<=F.length+7 * fl.length
 | [],_,_=>Nat.le_refl _
 | r :: rs,F,ok=>by
  have:=uY rs (st1 F r) fun q hq=>ok q (List.mem_cons_of_mem _ hq)
  have:=bA8 (F:=F) (ok r List.mem_cons_self);show (yQ rs (st1 F r)).length<=_;rw [List.length_cons];omega
theorem vP {xs:List Str}{fl:List Rw}(ok:∀ r∈fl,xQ xs r):∀ n,(iI fl n).length<=(n+1) * (7 * fl.length)
 | 0=>by have:=kM ok;show (fl.flatMap Rw.told).length<=_;omega
 | n+1=>by
  have:=vP ok n;have:=uY fl (iI fl n) ok;rw [Nat.succ_mul];show (yQ fl (iI fl n)).length<=_;omega
theorem nS {α: Type} [DecidableEq α]:∀ {ds xs:List α},ds.Nodup->(∀ x∈ds,x∈xs)->ds.length<=xs.length
 | [],_,_,_=>Nat.zero_le _
 | d :: ds,xs,nd,h=>by
  have hd:=h d List.mem_cons_self;have nd':=List.nodup_cons.mp nd;have:=nS (ds:=ds) (xs:=xs.erase d) nd'.2 fun x hx=>(List.mem_erase_of_ne (fun e=>nd'.1 (by rw [<- e];exact hx))).mpr (h x (List.mem_cons_of_mem _ hx))
  have:=List.length_erase_of_mem hd;have:=List.length_pos_of_mem hd;rw [List.length_cons];omega
theorem aQ9 {H:Hp}{r:Rw}(h:eT H r):(decide (r.w∈dZ) || decide (r.w="let"))=r.sets.isSome:=by
 cases r with
 | thr p w x vs=>rw [show (Rw.thr p w x vs).w=w from rfl,decide_eq_true (show w∈dZ from iQ.w h.2)];rfl
 | lt p x t=>show (decide ((Rw.lt p x t).w∈dZ) || decide (("let": Str)="let"))=true;simp
 | tell p t=>show (decide (("tell": Str)∈dZ) || decide (("tell": Str)="let"))=false;decide +kernel
 | when p pa pb t a b=>show (decide (("when": Str)∈dZ) || decide (("when": Str)="let"))=false;decide +kernel
 | times p pb n b=>show (decide (("times": Str)∈dZ) || decide (("times": Str)="let"))=false;decide +kernel
theorem aS0 {H:Hp}{r:Rw}(h:eT H r) (c:r.w="let"):∃ p x t,r= .lt p x t:=by
 cases r with
 | lt p x t=>exact ⟨p,x,t,rfl⟩
 | thr p w x vs =>
  have hw:w∈dZ:=iQ.w h.2;have c:w="let":=c;rw [c] at hw;exact absurd hw (by decide +kernel)
 | tell p t=>exact absurd (show ("tell": Str)="let" from c) (by decide +kernel)
 | when p pa pb t a b=>exact absurd (show ("when": Str)="let" from c) (by decide +kernel)
 | times p pb n b=>exact absurd (show ("times": Str)="let" from c) (by decide +kernel)
theorem aV6 {r:Rw}(c:¬ r.w="let") (x:Str):r.lets x=[]:=by
 cases r with
 | lt p y t=>exact absurd rfl c
 | _=>rfl
theorem bA7 {H:Hp}{r:Rw}(h:eT H r) (c:r.w∈(["tell","when"]:List Str)):r.told=r.asked:=by
 cases r with
 | lt p y t=>exact absurd (show ("let": Str)∈(["tell","when"]:List Str) from c) (by decide +kernel)
 | thr p w x vs=>rfl
 | tell p t=>rfl
 | when p pa pb t a b=>rfl
 | times p pb n b=>rfl
theorem wO {r:Rw}(c:¬ r.w∈(["tell","when"]:List Str)):r.told=[]:=by
 cases r with
 | tell p t=>exact absurd (show ("tell": Str)∈(["tell","when"]:List Str) from List.mem_cons_self) c
 | when p pa pb t a b=>exact absurd (show ("when": Str)∈(["tell","when"]:List Str) from List.mem_cons_of_mem _ List.mem_cons_self) c
 | _=>rfl
theorem bM5 {H:Hp}{r:Rw}(h:eT H r) (c:r.w∈(["tell","when"]:List Str)):∃ (t:Tm) (vs:List V),H r.p=some (.tup (.str r.w :: .ref t.p :: vs))/\nK H t/\r.tm=[t]/\r.told=t.names:=by
 cases r with
 | lt p y t=>exact absurd (show ("let": Str)∈(["tell","when"]:List Str) from c) (by decide +kernel)
 | thr p w x vs =>
  have hw:w∈dZ:=iQ.w h.2;have c:w∈(["tell","when"]:List Str):=c;simp only [List.mem_cons,List.not_mem_nil,or_false] at c;rcases c with e | e <;> (rw [e] at hw;exact absurd hw (by decide +kernel))
 | tell p t=>exact ⟨t,_,h.1,h.2,rfl,rfl⟩
 | when p pa pb t a b=>exact ⟨t,_,h.1,h.2.1,rfl,rfl⟩
 | times p pb n b=>exact absurd (show ("times": Str)∈(["tell","when"]:List Str) from c) (by decide +kernel)
structure BI (H G:Hp) (d:Addr) (kvs:List (Key×V)) (fl:List Rw) (n:Nat):Prop where
 sm:aZ H G
 nd:H d=none
 dc:G d=some (.dK kvs)
 ln:kvs.length<=n
 vl:∀ x:Str,(cM kvs (Sum.inr x:Key)=none/\fl.flatMap (Rw.lets x)=[])\/∃ l,cM kvs (Sum.inr x:Key)=some (.ref l)/\G l=some (.lst ((fl.flatMap (Rw.lets x)).map V.str))/\H l=none
 inj:∀ (x y:Str) (l:Addr),cM kvs (Sum.inr x:Key)=some (.ref l)->cM kvs (Sum.inr y:Key)=some (.ref l)->x=y
theorem BI.same {H G G':Hp}{d:Addr}{kvs:List (Key×V)}{fl:List Rw}{n:Nat}(b:BI H G d kvs fl n) (s:aZ G G'):BI H G' d kvs fl n :=
 ⟨b.sm.trans s,b.nd,s _ _ b.dc,b.ln,fun x=>by
  rcases b.vl x with h | ⟨l,h1,h2,h3⟩
  ·exact .inl h
  ·exact .inr ⟨l,h1,s _ _ h2,h3⟩,b.inj⟩
theorem BI.bh {H G:Hp}{d:Addr}{kvs:List (Key×V)}{fl:List Rw}{n:Nat}(b:BI H G d kvs fl n):Bh G d fl:=⟨kvs,b.dc,fun x=>by
 rcases b.vl x with h | ⟨l,h1,h2,_⟩
 ·exact .inl h
 ·exact .inr ⟨l,h1,h2⟩⟩
theorem zW {α: Type}(f:Rw->List α) (fl:List Rw) (r:Rw):(fl++[r]).flatMap f=fl.flatMap f++f r:=by
 rw [List.flatMap_append];simp
theorem BI.skip {H G:Hp}{d:Addr}{kvs:List (Key×V)}{fl:List Rw}{n:Nat}{r:Rw}(b:BI H G d kvs fl n) (h:∀ x,r.lets x=[]):BI H G d kvs (fl++[r]) (n+1) :=
 ⟨b.sm,b.nd,b.dc,Nat.le_succ_of_le b.ln,fun x=>by rw [zW,h x,List.append_nil];exact b.vl x,b.inj⟩
theorem BI.more {H G:Hp}{d l:Addr}{kvs:List (Key×V)}{fl:List Rw}{p:Addr}{x:Str}{t:Tm}{n:Nat}(b:BI H G d kvs fl n) (e:cM kvs (Sum.inr x:Key)=some (.ref l)) :
  BI H (aW G l (.lst ((fl.flatMap (Rw.lets x)).map V.str++t.names.map V.str))) d kvs (fl++[.lt p x t]) n:=by
 have hx:G l=some (.lst ((fl.flatMap (Rw.lets x)).map V.str))/\H l=none:=by
  rcases b.vl x with ⟨h,_⟩ | ⟨l',h1,h2,h3⟩
  ·rw [h] at e;cases e
  ·rw [h1] at e;cases e;exact ⟨h2,h3⟩
 refine ⟨cX b.sm hx.2,b.nd,?_,b.ln,fun y=>?_,b.inj⟩
 ·rw [aQ (fN b.dc hx.1 (by intro z;cases z))];exact b.dc
 ·rw [zW]
  by_cases c:y=x
  ·subst c;refine .inr ⟨l,e,?_,hx.2⟩;rw [aE,show (Rw.lt p y t).lets y=t.names from if_pos rfl,List.map_append]
  ·rw [show (Rw.lt p x t).lets y=[] from if_neg (fun z=>c z.symm),List.append_nil];rcases b.vl y with h | ⟨l',h1,h2,h3⟩
   ·exact .inl h
   ·refine .inr ⟨l',h1,?_,h3⟩;rw [aQ (fun z=>c (b.inj y x l (by rw [<- z];exact h1) e))];exact h2
theorem BI.new {H G:Hp}{d l:Addr}{kvs:List (Key×V)}{fl:List Rw}{x:Str}{n:Nat}(b:BI H G d kvs fl n) (hl:G l=none) (e:cM kvs (Sum.inr x:Key)=none) :
  BI H (aW (aW G l (.lst [])) d (.dK (dB kvs (Sum.inr x:Key) (.ref l)))) d (dB kvs (Sum.inr x:Key) (.ref l)) fl (n+1):=by
 have n0:H l=none:=b.sm.free hl;have ne:d≠l:=aR b.dc hl;refine ⟨fun a o h=>?_,b.nd,aE,?_,fun y=>?_,fun y z l' h1 h2=>?_⟩
 ·rw [aQ (aR h b.nd),aQ (aR h n0)];exact b.sm _ _ h
 ·have:=cK kvs (Sum.inr x:Key) (.ref l);have:=b.ln;omega
 ·rw [aT]
  by_cases c:y=x
  ·subst c;have ev:fl.flatMap (Rw.lets y)=[]:=by
    rcases b.vl y with ⟨_,h⟩ | ⟨l',h1,_⟩
    ·exact h
    ·rw [h1] at e;cases e
   refine .inr ⟨l,if_pos rfl,?_,n0⟩;rw [aQ ne.symm,aE,ev];rfl
  ·rw [if_neg (fun z=>c (Sum.inr.inj z))];rcases b.vl y with h | ⟨l',h1,h2,h3⟩
   ·exact .inl h
   ·refine .inr ⟨l',h1,?_,h3⟩;rw [aQ (fN h2 b.dc (by intro z;cases z)),aQ (aR h2 hl)];exact h2
 ·have fr:∀ w,cM kvs (Sum.inr w:Key)=some (.ref l)->False:=fun w h=>by
   rcases b.vl w with ⟨h1,_⟩ | ⟨l2,h1,h2,_⟩
   ·rw [h1] at h;cases h
   ·rw [h1] at h;cases h;rw [h2] at hl;cases hl
  rw [aT] at h1 h2
  by_cases c:y=x
  ·by_cases c2:z=x
   ·rw [c,c2]
   ·rw [if_pos (by rw [c])] at h1;rw [if_neg (fun q=>c2 (Sum.inr.inj q))] at h2
    cases h1
    exact (fr z h2).elim
  ·rw [if_neg (fun q=>c (Sum.inr.inj q))] at h1
   by_cases c2:z=x
   ·rw [if_pos (by rw [c2])] at h2
    cases h2
    exact (fr y h1).elim
   ·rw [if_neg (fun q=>c2 (Sum.inr.inj q))] at h2;exact b.inj y z l' h1 h2
def vQ (fs:List Str):List (Key×V):=fs.map fun x=>((Sum.inr x:Key),V.bl true)
theorem yG (x:Str):∀ fs:List Str,cM (vQ fs) (Sum.inr x:Key)=if x∈fs then some (.bl true) else none
 | []=>rfl
 | y :: r=>by
  show cM (((Sum.inr y:Key),V.bl true) :: vQ r) (Sum.inr x:Key)=_
  by_cases c:y=x
  ·rw [dF (by rw [c]),if_pos (by rw [c];exact List.mem_cons_self)]
  ·rw [cS (fun z=>c (Sum.inr.inj z)),yG x r];have:x∈y :: r↔x∈r:=by rw [List.mem_cons];exact ⟨fun h=>by rcases h with e | e;exact absurd e.symm c;exact e,.inr⟩
   simp only [this]
theorem bM9 {fs:List Str}{x:Str}(h:x∉fs):dB (vQ fs) (Sum.inr x:Key) (.bl true)=vQ (fs++[x]):=by
 rw [pU _ (by rw [yG,if_neg h])];unfold vQ;rw [List.map_append];rfl
theorem bF6 (fs:List Str):(vQ fs).map (fun e=>kV e.1)=fs.map V.str:=by
 unfold vQ;rw [List.map_map];rfl
theorem aV5 (fs:List Str):(vQ fs).length=fs.length:=List.length_map _
theorem BI.up {H G:Hp}{d:Addr}{kvs:List (Key×V)}{fl:List Rw}{n m:Nat}(b:BI H G d kvs fl n) (h:n<=m):BI H G d kvs fl m:=⟨b.sm,b.nd,b.dc,Nat.le_trans b.ln h,b.vl,b.inj⟩
theorem aD8 {xs:List Str}{fl:List Rw}{i:Nat}{x:Str}{t:Tm}{p:Addr}(ok:∀ r∈fl,xQ xs r) (hn:fl.length<=1300) (h:xQ xs (.lt p x t)):(((fl.take i).flatMap (Rw.lets x)).map V.str).length+(t.names.map V.str).length<=sizeLine:=by
 have h1:=mM (fl:=fl.take i) (fun r hr=>ok r (List.mem_of_mem_take hr)) x;have h2:=h.asked.1;have h2:t.names.length<=7:=h2;rw [List.length_take] at h1;rw [List.length_map,List.length_map];exact Nat.le_of_lt (sA (by omega))
theorem bK6 {H:Hp}{a:Addr}{kvs:List (Key×V)}(e:H a=some (.dK kvs)):IsD H a:= .inl ⟨_,.inl e⟩
theorem vA {ss:List Str}{r:Rw}{x:Str}(h:r.sets=some x):kZ ss r= !decide (x∈ss):=by unfold kZ;rw [h]
theorem wV {ss:List Str}{r:Rw}(h:r.sets=none):kZ ss r=false:=by unfold kZ;rw [h]
theorem aF1 {H:Hp}{r:Rw}{x:Str}(h:eT H r) (e:r.sets=some x):∃ vs,H r.p=some (.tup (.str r.w :: .str x :: vs)):=by
 cases r with
 | thr p w y vs=>cases e;exact ⟨_,h.1⟩
 | lt p y t=>cases e;exact ⟨_,h.1⟩
 | tell p t=>cases e
 | when p pa pb t a b=>cases e
 | times p pb n b=>cases e
theorem lI (x:Str) (ss:List Str):(!lC (V.str x) (ss.map V.str))= !decide (x∈ss):=by rw [cJ]
theorem at1 {v u:V}{r:List V}:jA (v :: u :: r) 1=some u:=by
 unfold jA ixN;rw [if_pos (by decide),if_pos (by rw [List.length_cons,List.length_cons];omega)];rfl
theorem jR.okf {H:Hp}{p:Addr}{xs:List Str}{rs:List Rw}(P:jR H p xs rs):∀ r∈bK rs,xQ xs r:=P.ok
theorem jR.fl {H:Hp}{p:Addr}{xs:List Str}{rs:List Rw}(P:jR H p xs rs):(bK rs).length<=1300:=by rw [eQ];exact P.cnt
def lc (s:Str):Nat:=s.cps.toList.getLast?.getD 0
theorem bC6 (a:Str) (c:Nat):lc (a++(⟨#[c]⟩:Str))=c:=by
 show (((a.cps++ #[c]).toList).getLast?).getD 0=c;rw [Array.toList_append];simp
theorem aM0 {s:Nat}(h:s < 26):jA ("abcdefghijklmnopqrstuvwxyz": Str).cps.toList ((s:Int) % 26)=some (97+s):=by
 have e:((s:Int) % 26)=(s:Int):=Int.emod_eq_of_lt (by omega) (by omega);rw [e];have:∀ n:Fin 26,jA ("abcdefghijklmnopqrstuvwxyz": Str).cps.toList ((n.val:Nat):Int)=some (97+n.val):=by decide +kernel
 exact this ⟨s,h⟩
theorem aW7 {s:Nat}(h:s < 26):jA ("abcdefghijklmnopqrstuvwxyz": Str).cps.toList ((s:Int) / 26 % 26)=some 97:=by
 have e:((s:Int) / 26 % 26)=0:=by omega
 rw [e]
 decide +kernel
def mw (L:List Str) (s:Nat):Nat:=if s=0 then 24 else L.countP fun w=>decide (97+s<=lc w+1)
theorem bO8 {L:List Str}(h:L.length<=23) (s:Nat) (hs:s≠0):mw L s<=23:=by
 unfold mw;rw [if_neg hs];exact Nat.le_trans List.countP_le_length h
theorem bE4 {L:List Str}(hL:L.length<=23) {s:Nat}{w:Str}(hw:w∈L) (hs:s=0\/lc w+1=97+s):mw L (s+1)+1<=mw L s:=by
 rcases hs with e | e
 ·subst e;have:=bO8 hL 1 (by decide);show mw L 1+1<=24;omega
 ·unfold mw;rw [if_neg (by omega)]
  by_cases c:s=0
  ·rw [if_pos c];have:=List.countP_le_length (p:=fun w=>decide (97+(s+1)<=lc w+1)) (l:=L);omega
  ·rw [if_neg c];clear hL c
   induction L with
   | nil=>exact absurd hw List.not_mem_nil
   | cons z r ih =>
    have mo:List.countP (fun w=>decide (97+(s+1)<=lc w+1)) r<=List.countP (fun w=>decide (97+s<=lc w+1)) r:=List.countP_mono_left fun x _ hx=>decide_eq_true (by have:=of_decide_eq_true hx;omega)
    rw [List.countP_cons,List.countP_cons]
    by_cases d:w=z
    ·subst d;rw [if_neg (by simp;omega),if_pos (by simp;omega)];omega
    ·have:=ih (by rcases List.mem_cons.mp hw with q | q;exact absurd q d;exact q)
     by_cases c1:97+(s+1)<=lc z+1
     ·rw [if_pos (by simpa using c1),if_pos (by simp;omega)];omega
     ·rw [if_neg (by simpa using c1)];split <;> omega
def Rw.inn:Rw->List (Addr×List Rw)
 | .when _ pa pb _ a b=>[(pa,a),(pb,b)]
 | .times _ pb _ b=>[(pb,b)]
 | .thr _ _ _ _=>[]
 | .lt _ _ _=>[]
 | .tell _ _=>[]
theorem xJ (r:Rw):bK r.kids=r.inn.flatMap fun e=>bK e.2:=by
 cases r <;> simp [Rw.kids,Rw.inn,gZ,bK]
theorem bL5 {H:Hp}{r:Rw}(h:eT H r) (c:r.w∈(["when","times"]:List Str)):∃ v,H r.p=some (.tup (.str r.w :: v :: r.inn.map fun e=>V.ref e.1))/\∀ e∈r.inn,H e.1=some (.tup (cI e.2))/\bL H e.2/\cU e.2<=r.cnt/\fF e.2+1<=qR r:=by
 cases r with
 | when p pa pb t a b =>
  refine ⟨_,h.1,fun e he=>?_⟩;simp only [Rw.inn,List.mem_cons,List.not_mem_nil,or_false] at he;rcases he with rfl | rfl
  ·exact ⟨h.2.2.1,h.2.2.2.2.1,by simp only [Rw.cnt];omega,by simp only [qR];omega⟩
  ·exact ⟨h.2.2.2.1,h.2.2.2.2.2,by simp only [Rw.cnt];omega,by simp only [qR];omega⟩
 | times p pb n b =>
  refine ⟨_,h.1,fun e he=>?_⟩;simp only [Rw.inn,List.mem_cons,List.not_mem_nil,or_false] at he;rcases he with rfl
  exact ⟨h.2.1,h.2.2,by simp only [Rw.cnt];omega,by simp only [qR];omega⟩
 | thr p w x vs =>
  have hw:w∈dZ:=iQ.w h.2;have c:w∈(["when","times"]:List Str):=c;simp only [List.mem_cons,List.not_mem_nil,or_false] at c;rcases c with e | e <;> (rw [e] at hw;exact absurd hw (by decide +kernel))
 | lt p y t=>exact absurd (show ("let": Str)∈(["when","times"]:List Str) from c) (by decide +kernel)
 | tell p t=>exact absurd (show ("tell": Str)∈(["when","times"]:List Str) from c) (by decide +kernel)
theorem bH7 {r:Rw}(c:¬ r.w∈(["when","times"]:List Str)):r.kids=[]:=by
 cases r with
 | when p pa pb t a b=>exact absurd (show ("when": Str)∈(["when","times"]:List Str) from List.mem_cons_self) c
 | times p pb n b=>exact absurd (show ("times": Str)∈(["when","times"]:List Str) from List.mem_cons_of_mem _ List.mem_cons_self) c
 | _=>rfl
theorem bA4 (a b:V) (r:List V):gH (a :: b :: r) (some 2) none=r:=by
 unfold gH;rw [show HT.sIx (a :: b :: r).length 0 (some 2)=2 from by rw [show (2:Int)=((2:Nat):Int) from rfl,HT.sIx_nat,List.length_cons,List.length_cons];omega,show HT.sIx (a :: b :: r).length (a :: b :: r).length none=(a :: b :: r).length from rfl];show List.take ((a :: b :: r).length - 2) r=r;rw [List.take_of_length_le (by simp)]
theorem zA (a b:V) (r:List V):¬ (HT.sIx (a :: b :: r).length 0 (some 2)=0/\HT.sIx (a :: b :: r).length (a :: b :: r).length none=(a :: b :: r).length):=by
 rw [show HT.sIx (a :: b :: r).length 0 (some 2)=2 from by rw [show (2:Int)=((2:Nat):Int) from rfl,HT.sIx_nat,List.length_cons,List.length_cons];omega];exact fun z=>absurd z.1 (by decide)
theorem bF9 {H:Hp}{r:Rw}(h:eT H r):decide (r.w∈(["ladder","flat","choose","first","let"]:List Str))=r.sets.isSome:=by
 cases r with
 | thr p w x vs =>
  have hw:w∈dZ:=iQ.w h.2;refine decide_eq_true (show w∈(["ladder","flat","choose","first","let"]:List Str) from ?_);unfold dZ at hw;simp only [List.mem_cons,List.not_mem_nil,or_false] at hw ⊢;rcases hw with e | e | e | e <;> simp [e]
 | lt p x t=>show decide (("let": Str)∈(["ladder","flat","choose","first","let"]:List Str))=true;decide +kernel
 | tell p t=>show decide (("tell": Str)∈(["ladder","flat","choose","first","let"]:List Str))=false;decide +kernel
 | when p pa pb t a b=>show decide (("when": Str)∈(["ladder","flat","choose","first","let"]:List Str))=false;decide +kernel
 | times p pb n b=>show decide (("times": Str)∈(["ladder","flat","choose","first","let"]:List Str))=false;decide +kernel
theorem sK {rs:List Rw}{i:Nat}{r:Rw}(h:rs[i]?=some r):bK (rs.take (i+1))=bK (rs.take i)++(r :: bK r.kids):=by
 rw [bF h,gZ];show _++(r.flat++[])=_;rw [List.append_nil,uR]
theorem wJ {rs:List Rw}(i:Nat):cU (rs.take i)<=cU rs:=by
 have:=gB (rs.take i) (rs.drop i);rw [List.take_append_drop] at this;omega
theorem aR5 {fl:List Rw}{i:Nat}{r:Rw}(h:fl[i]?=some r) (F:List Str):yQ (fl.take (i+1)) F=st1 (yQ (fl.take i) F) r:=by
 rw [bF h];unfold yQ;rw [List.foldl_append];rfl
def tT (nl:Addr) (kd:Int):List (Key×V):=[(Sum.inr "names",.ref nl),(Sum.inr "kinds",.int kd),(Sum.inr "wide",.int 6),(Sum.inr "left",.int 6),(Sum.inr "room",.int 12),(Sum.inr "quiet",.bl false),(Sum.inr "far",.int 6)]
theorem aZ4 (nl:Addr) {kd:Int}(h0:0<=kd) (h1:kd<=3):Wk (eJ [] (tT nl kd)) nl kd 6:=by
 unfold eJ tT;simp only [List.foldl_cons,List.foldl_nil];refine ⟨?_,by rw [aT,if_neg (by decide +kernel),aT,if_neg (by decide +kernel),aT,if_neg (by decide +kernel),aT,if_neg (by decide +kernel),aT,if_neg (by decide +kernel),aT,if_neg (by decide +kernel),aT,if_pos rfl],⟨by rw [aT,if_neg (by decide +kernel),aT,if_neg (by decide +kernel),aT,if_neg (by decide +kernel),aT,if_neg (by decide +kernel),aT,if_neg (by decide +kernel),aT,if_pos rfl],h0,h1⟩,by rw [aT,if_neg (by decide +kernel),aT,if_neg (by decide +kernel),aT,if_neg (by decide +kernel),aT,if_neg (by decide +kernel),aT,if_pos rfl],⟨by rw [aT,if_neg (by decide +kernel),aT,if_neg (by decide +kernel),aT,if_neg (by decide +kernel),aT,if_pos rfl],by decide⟩,⟨12,by rw [aT,if_neg (by decide +kernel),aT,if_neg (by decide +kernel),aT,if_pos rfl]⟩,⟨false,by rw [aT,if_neg (by decide +kernel),aT,if_pos rfl]⟩,⟨6,by rw [aT,if_pos rfl]⟩⟩;have l1:=cK ([]:List (Key×V)) (Sum.inr "names": Key) (.ref nl)
 have l2:=cK (dB ([]:List (Key×V)) (Sum.inr "names": Key) (.ref nl)) (Sum.inr "kinds": Key) (.int kd);generalize dB (dB ([]:List (Key×V)) (Sum.inr "names": Key) (.ref nl)) (Sum.inr "kinds": Key) (.int kd)=z2 at l2 ⊢;have l3:=cK z2 (Sum.inr "wide": Key) (.int 6);generalize dB z2 (Sum.inr "wide": Key) (.int 6)=z3 at l3 ⊢;have l4:=cK z3 (Sum.inr "left": Key) (.int 6);generalize dB z3 (Sum.inr "left": Key) (.int 6)=z4 at l4 ⊢;have l5:=cK z4 (Sum.inr "room": Key) (.int 12);generalize dB z4 (Sum.inr "room": Key) (.int 12)=z5 at l5 ⊢;have l6:=cK z5 (Sum.inr "quiet": Key) (.bl false);generalize dB z5 (Sum.inr "quiet": Key) (.bl false)=z6 at l6 ⊢;have l7:=cK z6 (Sum.inr "far": Key) (.int 6);rw [List.length_nil] at l1;omega
theorem bO5:WkT (eJ [] [((Sum.inr "kinds": Key),V.int 1),((Sum.inr "wide": Key),V.int 4)]) 1:=by
 unfold eJ;simp only [List.foldl_cons,List.foldl_nil];exact ⟨⟨4,by rw [aT,if_pos rfl],by decide,by decide⟩,by rw [aT,if_neg (by decide +kernel),aT,if_pos rfl],by decide,by decide⟩
theorem cH8 {xs:List Str}(h:xs.length=7):∃ (y:Str) (ys:List Str),gH (xs.map V.str) (some 3) none=(y :: ys).map V.str/\ys.length=3/\jA (xs.map V.str) 3=some (.str y):=by
 match xs,h with
 | [a,b,c,d,e,f,g],_=>exact ⟨d,[e,f,g],rfl,rfl,rfl⟩
theorem oG {xs:List Str}{i:Int}(h0:0<=i) (h1:i < (xs.length:Int)):∃ x,jA (xs.map V.str) i=some (.str x)/\x∈xs:=by
 obtain ⟨v,hv,ha⟩:=zM (xs:=xs.map V.str) h0 (by rw [List.length_map];exact h1);obtain ⟨x,rfl,hx⟩:=mH hv;exact ⟨x,ha,List.mem_of_getElem? hx⟩
theorem Lt.app {x y:Str}(a:Lt x) (b:Lt y):Lt (x++y):=fun c hc=>by
 have hc:c∈(x.cps++y.cps).toList:=hc;rw [Array.toList_append] at hc;rcases List.mem_append.mp hc with e | e
 ·exact a c e
 ·exact b c e
theorem Lt.one {c:Nat}(h:c < 200):Lt ⟨#[c]⟩:=fun d hd=>by
 have:d=c:=by simpa using hd
 omega
theorem aG6 {r:Int}{c:Nat}(h:jA ("abcdefghijklmnopqrstuvwxyz": Str).cps.toList r=some c):c < 200:=by
 unfold jA at h;obtain ⟨j,_,hj⟩:=Option.bind_eq_some_iff.mp h;have m:=List.mem_of_getElem? hj;have:∀ c∈("abcdefghijklmnopqrstuvwxyz": Str).cps.toList,c < 200:=by decide +kernel
 exact this c m
theorem xE:∀ {ys:List Str}{a:Array Nat},(∀ c∈a.toList,c < 200)->(∀ y∈ys,Lt y)->∀ c∈(ys.foldl (fun acc p=>acc++("": Str).cps++p.cps) a).toList,c < 200
 | [],a,h,_=>h
 | y :: r,a,h,k=>by
  rw [List.foldl_cons];refine xE (fun c hc=>?_) fun z hz=>k z (List.mem_cons_of_mem _ hz)
  rw [Array.toList_append,Array.toList_append] at hc;rcases List.mem_append.mp hc with e | e
  ·rcases List.mem_append.mp e with e | e
   ·exact h c e
   ·exact absurd e (by show ¬ c∈([]:List Nat);exact List.not_mem_nil)
  ·exact k y List.mem_cons_self c e
theorem bI0 {zs:List Str}(h:∀ z∈zs,Lt z):Lt (Txt.join "" zs):=by
 cases zs with
 | nil=>exact fun c hc=>absurd hc (by show ¬ c∈([]:List Nat);exact List.not_mem_nil)
 | cons y r=>exact xE (h y List.mem_cons_self) fun z hz=>h z (List.mem_cons_of_mem _ hz)
theorem aX8 {x:Str}(h:Lt x) (lo hi:Option Int):Lt (Txt.slice x lo hi):=by
 unfold Txt.slice
 split
 ·exact h
 ·intro c hc;have hc:c∈List.filterMap (fun i=>x.cps[i]?) (Builtin.Str.strSliceIndices lo hi 1 x.length):=by simpa using hc
  obtain ⟨i,_,e⟩:=List.mem_filterMap.mp hc;exact h c (by
   have:=Array.getElem?_toList (xs:=x.cps) (i:=i);rw [e] at this;exact List.mem_of_getElem? this)
theorem bV8 {x:Int}(x0:0<=x) (x1:x < 5):∃ w:Int,jA [V.int 0,V.int 1,V.int 1,V.int 2,V.int 3] x=some (.int w)/\0<=w/\w<=3:=by
 obtain rfl | rfl | rfl | rfl | rfl:x=0\/x=1\/x=2\/x=3\/x=4:=by omega
 ·exact ⟨0,rfl,by decide,by decide⟩
 ·exact ⟨1,rfl,by decide,by decide⟩
 ·exact ⟨1,rfl,by decide,by decide⟩
 ·exact ⟨2,rfl,by decide,by decide⟩
 ·exact ⟨3,rfl,by decide,by decide⟩
def eN:List Int:=[2,3,5,7]
def ND (i:Nat) (p q:Int):Prop:=∀ e∈eN.take i,¬ (p % e=0/\q % e=0)
theorem ND.div {i:Nat}{p q e:Int}(e0:0 < e) (hp:p % e=0) (hq:q % e=0) (h:ND i p q):ND i (p / e) (q / e):=fun d hd ⟨a,b⟩=>by
 refine h d hd ⟨?_,?_⟩
 ·obtain ⟨c,hc⟩:=Int.dvd_of_emod_eq_zero a;have e1:p=e * (p / e):=(Int.mul_ediv_cancel' (Int.dvd_of_emod_eq_zero hp)).symm;rw [e1,hc];exact Int.emod_eq_zero_of_dvd ⟨e * c,by grind⟩
 ·obtain ⟨c,hc⟩:=Int.dvd_of_emod_eq_zero b;have e1:q=e * (q / e):=(Int.mul_ediv_cancel' (Int.dvd_of_emod_eq_zero hq)).symm;rw [e1,hc];exact Int.emod_eq_zero_of_dvd ⟨e * c,by grind⟩
theorem ND.more {i:Nat}{p q e:Int}(he:eN[i]?=some e) (h:ND i p q) (n:¬ (p % e=0/\q % e=0)):ND (i+1) p q:=fun d hd=>by
 rw [bF he] at hd;rcases List.mem_append.mp hd with z | z
 ·exact h d z
 ·rw [List.mem_singleton.mp z];exact n
theorem bH0:∀ p q:Fin 10,(∀ e∈([2,3,5,7]:List Nat),¬ (p.val % e=0/\q.val % e=0))->1<=p.val->Nat.gcd p.val q.val=1:=by decide +kernel
theorem ND.cop {p q:Int}(h:ND 4 p q) (p1:1<=p) (pq:p < q) (q9:q<=9):tJ p q:=by
 refine ⟨⟨p1,pq,q9⟩,?_⟩;refine bH0 ⟨p.toNat,by omega⟩ ⟨q.toNat,by omega⟩ ?_ (by show 1<=p.toNat;omega);rintro e he ⟨a,b⟩;have a:p.toNat % e=0:=a;have b:q.toNat % e=0:=b;simp only [List.mem_cons,List.not_mem_nil,or_false] at he;rcases he with rfl | rfl | rfl | rfl
 ·exact h 2 (by show (2:Int)∈eN;unfold eN;simp) ⟨by omega,by omega⟩
 ·exact h 3 (by show (3:Int)∈eN;unfold eN;simp) ⟨by omega,by omega⟩
 ·exact h 5 (by show (5:Int)∈eN;unfold eN;simp) ⟨by omega,by omega⟩
 ·exact h 7 (by show (7:Int)∈eN;unfold eN;simp) ⟨by omega,by omega⟩
theorem bO0 {p q e:Int}(e0:2<=e) (hp:p % e=0) (hq:q % e=0) (p1:1<=p) (pq:p < q):1<=p / e/\p / e < q / e/\q / e < q:=by
 have e1:p=e * (p / e):=(Int.mul_ediv_cancel' (Int.dvd_of_emod_eq_zero hp)).symm;have e2:q=e * (q / e):=(Int.mul_ediv_cancel' (Int.dvd_of_emod_eq_zero hq)).symm;generalize p / e=a at *;generalize q / e=b at *;have a1:1<=a:=by
  rcases (show 0 < a\/a<=0 by omega) with z | z
  ·omega
  ·have:=Int.mul_le_mul_of_nonneg_left z (show 0<=e by omega);omega
 have ab:a < b:=by
  rcases (show a < b\/b<=a by omega) with z | z
  ·exact z
  ·have:=Int.mul_le_mul_of_nonneg_left z (show 0<=e by omega);omega
 refine ⟨a1,ab,?_⟩;have:=Int.mul_le_mul_of_nonneg_right e0 (show 0<=b by omega);omega
theorem yW {α: Type}{l:List α}(h:1<=l.length):∃ a r,l=a :: r:=by
 cases l with
 | nil=>cases h
 | cons a r=>exact ⟨a,r,rfl⟩
theorem uC {xs:List V}{r:Int}(h0:0<=r) (h1:r<=xs.length):gH xs none (some r)=xs.take r.toNat:=by
 unfold gH;rw [show r=((r.toNat:Nat):Int) by omega,HT.sIx_nat,HT.sIx_none,List.drop_zero,Nat.sub_zero,Int.toNat_natCast,Nat.min_eq_left (by omega)]
abbrev Fr:=Int×Int
abbrev Prc:=Fr×Fr
def dH (c w:Int):Fr:=(eS c w,dU c w)
theorem aA1 {a b c d:Int}(ha:0<=a) (hb:1<=b) (hc:0<=c) (hd:1<=d) (h:a * d=c * b):dH a b=dH c d:=by
 have e:=yM ha hb hc hd h;unfold dH;rw [e.1,e.2]
def vL (u e:Fr):Fr:=dH (u.1 * e.2+e.1 * u.2) (u.2 * e.2)
def fJ (u e:Fr):Fr:=dH (u.1 * e.1) (u.2 * e.2)
structure qQ (u:Fr):Prop where
 a:0<=u.1
 b:1<=u.2
 l:dH u.1 u.2=u
theorem kH {a b:Int}(ha:0<=a) (hb:1<=b):qQ (dH a b):=by
 have e:=bF1 ha hb;refine ⟨fZ ha,jB hb,?_⟩;show (eS (eS a b) (dU a b),dU (eS a b) (dU a b))=(eS a b,dU a b)
 rw [e.1,e.2]
theorem aD0:qQ (1,1):=⟨by decide,by decide,by decide +kernel⟩
theorem pJ:qQ (0,1):=⟨by decide,by decide,by decide +kernel⟩
theorem bB4 {u e:Fr}(hu:qQ u) (he:qQ e):qQ (fJ u e):=by
 refine kH (Int.mul_nonneg hu.a he.a) ?_;have:=Int.mul_pos (show 0 < u.2 by have:=hu.b;omega) (show 0 < e.2 by have:=he.b;omega);omega
theorem bH8 {u e:Fr}(hu:qQ u) (he:qQ e):qQ (vL u e):=by
 have a1:=hu.a;have a2:=hu.b;have b1:=he.a;have b2:=he.b;have m1:=Int.mul_nonneg a1 (show 0<=e.2 by omega);have m2:=Int.mul_nonneg b1 (show 0<=u.2 by omega);have:=Int.mul_pos (show 0 < u.2 by omega) (show 0 < e.2 by omega);exact kH (by omega) (by omega)
theorem bF4 {u:Fr}(h:qQ u):fJ u (1,1)=u:=by
 show dH (u.1 * 1) (u.2 * 1)=u;rw [Int.mul_one,Int.mul_one];exact h.l
theorem bF8 {u:Fr}(h:qQ u):fJ (1,1) u=u:=by
 show dH (1 * u.1) (1 * u.2)=u;rw [Int.one_mul,Int.one_mul];exact h.l
theorem aY0 {u:Fr}(h:qQ u):vL u (0,1)=u:=by
 show dH (u.1 * 1+0 * u.2) (u.2 * 1)=u;rw [Int.mul_one,Int.mul_one,Int.zero_mul,Int.add_zero];exact h.l
theorem aU9 {u:Fr}(h:qQ u):vL (0,1) u=u:=by
 show dH (0 * u.2+u.1 * 1) (1 * u.2)=u;rw [Int.mul_one,Int.one_mul,Int.zero_mul,Int.zero_add];exact h.l
structure fI (n:Nat) (u:Fr):Prop where
 a:0<=u.1
 b:1<=u.2
 ba:cE n u.1
 bb:cE n u.2
theorem fI.mono {m n:Nat}{u:Fr}(h:fI m u) (l:m<=n):fI n u:=⟨h.a,h.b,h.ba.mono l,h.bb.mono l⟩
theorem pV {n:Nat}{a w:Int}(a0:0<=a) (a1:cE n a) (w1:1<=w) (w2:cE n w):fI n (dH a w):=by
 have p1:=fZ (b:=w) a0;have p2:=jB (a:=a) w1;have p3:=aC0 (b:=w) a0 w1;have p4:=aA8 (a:=a) w1;refine ⟨p1,p2,Nat.lt_of_le_of_lt ?_ a1,Nat.lt_of_le_of_lt ?_ w2⟩
 ·show (eS a w).natAbs<=a.natAbs;omega
 ·show (dU a w).natAbs<=w.natAbs;omega
theorem bX6 {m n:Nat}{u e:Fr}(hu:fI m u) (he:fI n e):fI (m+n) (fJ u e):=by
 refine pV (Int.mul_nonneg hu.a he.a) (hu.ba.mul he.ba) ?_ (hu.bb.mul he.bb);have:=Int.mul_pos (show 0 < u.2 by have:=hu.b;omega) (show 0 < e.2 by have:=he.b;omega);omega
theorem cC1 {m n:Nat}{u e:Fr}(hu:fI m u) (he:fI n e):fI (m+n+1) (vL u e):=by
 have a1:=hu.a;have a2:=hu.b;have b1:=he.a;have b2:=he.b;have m1:=Int.mul_nonneg a1 (show 0<=e.2 by omega);have m2:=Int.mul_nonneg b1 (show 0<=u.2 by omega);have:=Int.mul_pos (show 0 < u.2 by omega) (show 0 < e.2 by omega);exact pV (by omega) ((hu.ba.mul he.bb).add ((he.ba.mul hu.bb).mono (by omega))) (by omega) ((hu.bb.mul he.bb).mono (by omega))
def free:Prc:=((1,1),(0,1))
structure fQ (p:Prc):Prop where
 f:qQ p.1
 r:qQ p.2
theorem eG:fQ free:=⟨aD0,pJ⟩
def jO (acc p:Prc):Prc:=(fJ acc.1 p.1,vL acc.2 p.2)
def fB (ps:List Prc):Prc:=ps.foldl jO free
theorem lY (ps:List Prc) (p:Prc):fB (ps++[p])=jO (fB ps) p:=by unfold fB;rw [List.foldl_append];rfl
theorem lR {a p:Prc}(h:fQ a) (k:fQ p):fQ (jO a p):=⟨bB4 h.f k.f,bH8 h.r k.r⟩
theorem xL:∀ {ps:List Prc}{a:Prc},fQ a->(∀ p∈ps,fQ p)->fQ (ps.foldl jO a)
 | [],_,h,_=>h
 | p :: ps,a,h,k=>by
  rw [List.foldl_cons];exact xL (ps:=ps) (lR h (k p List.mem_cons_self)) fun q hq=>k q (List.mem_cons_of_mem _ hq)
theorem lV {ps:List Prc}(h:∀ p∈ps,fQ p):fQ (fB ps):=xL eG h
def gC (a b:Fr):Fr:=if a.1 * b.2 < b.1 * a.2 then b else a
def pW (a b:Prc):Prc:=(gC a.1 b.1,gC a.2 b.2)
theorem iU (a b:Fr):gC a b=a\/gC a b=b:=by unfold gC;split;exact .inr rfl;exact .inl rfl
theorem aV1 {a b:Prc}(h:fQ a) (k:fQ b):fQ (pW a b):=by
 refine ⟨?_,?_⟩
 ·show qQ (gC a.1 b.1);rcases iU a.1 b.1 with e | e <;> rw [e];exact h.f;exact k.f
 ·show qQ (gC a.2 b.2);rcases iU a.2 b.2 with e | e <;> rw [e];exact h.r;exact k.r
def kF (n:Nat) (a:Prc):Prc:=((a.1.1 ^ n,a.1.2 ^ n),dH (a.2.1 * n) (a.2.2 * 1))
theorem aF3 {x y:Int}(hx:0<=x) (hy:1<=y) (h:dH x y=(x,y)) (n:Nat):dH (x ^ n) (y ^ n)=(x ^ n,y ^ n):=by
 obtain ⟨a,rfl⟩:=Int.eq_ofNat_of_zero_le hx;obtain ⟨b,rfl⟩:=Int.eq_ofNat_of_zero_le (show 0<=y by omega);have b0:0 < b:=by omega
 have g1:Nat.gcd a b=1:=by
  have e:dU (a:Int) (b:Int)=(b:Int):=(Prod.mk.inj h).2;unfold dU gI at e;rw [Int.toNat_natCast,Int.toNat_natCast, <- Int.natCast_ediv] at e;have e:b / Nat.gcd a b=b:=Int.ofNat_inj.mp e;have gp:0 < Nat.gcd a b:=Nat.gcd_pos_of_pos_right _ b0;have d:=Nat.gcd_dvd_right a b;have m:=Nat.div_mul_cancel d;rw [e] at m;have:b * Nat.gcd a b=b * 1:=by rw [m,Nat.mul_one]
  exact Nat.eq_of_mul_eq_mul_left b0 this
 have g2:Nat.gcd (a ^ n) (b ^ n)=1:=by
  have:Nat.Coprime a b:=g1;exact Nat.Coprime.pow n n this
 unfold dH eS dU gI;rw [<- Int.natCast_pow, <- Int.natCast_pow,Int.toNat_natCast,Int.toNat_natCast,g2];simp
theorem tQ {a:Prc}(h:fQ a):∀ n:Nat,fB (List.replicate n a)=kF n a
 | 0=>by
  show free=_;unfold kF free;have e:dH (a.2.1 * ((0:Nat):Int)) (a.2.2 * 1)=(0,1):=by
   have:=aA1 (a:=a.2.1 * ((0:Nat):Int)) (b:=a.2.2 * 1) (c:=0) (d:=1) (by omega) (by have:=h.r.b;omega) (by decide) (by decide) (by simp);rw [this];decide +kernel
  rw [e,Int.pow_zero,Int.pow_zero]
 | n+1=>by
  rw [List.replicate_succ',lY,tQ h n];have h1:=h.f.a;have h2:=h.f.b;have h3:=h.r.a;have h4:=h.r.b;unfold jO kF;refine Prod.ext ?_ ?_
  ·show fJ (a.1.1 ^ n,a.1.2 ^ n) a.1=(a.1.1 ^ (n+1),a.1.2 ^ (n+1))
   show dH (a.1.1 ^ n * a.1.1) (a.1.2 ^ n * a.1.2)=_;rw [<- Int.pow_succ, <- Int.pow_succ];exact aF3 h1 h2 h.f.l (n+1)
  ·show vL (dH (a.2.1 * (n:Int)) (a.2.2 * 1)) a.2=dH (a.2.1 * ((n+1:Nat):Int)) (a.2.2 * 1);have n0:=Int.mul_nonneg h3 (show 0<=(n:Int) by omega);have r:=mQ (a:=a.2.1 * (n:Int)) (b:=a.2.2 * 1) n0 (by omega);have q1:=fZ (b:=a.2.2 * 1) n0;have q2:=jB (a:=a.2.1 * (n:Int)) (show 1<=a.2.2 * 1 by omega);show dH (eS (a.2.1 * (n:Int)) (a.2.2 * 1) * a.2.2+a.2.1 * dU (a.2.1 * (n:Int)) (a.2.2 * 1)) (dU (a.2.1 * (n:Int)) (a.2.2 * 1) * a.2.2)=_;generalize eS (a.2.1 * (n:Int)) (a.2.2 * 1)=x at *;generalize dU (a.2.1 * (n:Int)) (a.2.2 * 1)=y at *;have m1:=Int.mul_nonneg q1 (show 0<=a.2.2 by omega);have m2:=Int.mul_nonneg h3 (show 0<=y by omega);have m3:=Int.mul_pos (show 0 < y by omega) (show 0 < a.2.2 by omega);refine aA1 (by omega) (by omega) (Int.mul_nonneg h3 (by omega)) (by omega) ?_;rw [Int.natCast_add];rw [Int.mul_one] at r ⊢;generalize (n:Int)=N at *
   grind
def bA1 (ns:List Int):Int:=ns.foldl max 0
theorem mV:∀ (ns:List Int) (a:Int),a<=ns.foldl max a/\(∀ n∈ns,n<=ns.foldl max a)/\(ns.foldl max a=a\/ns.foldl max a∈ns)
 | [],a=>⟨Int.le_refl _,fun _ h=>absurd h List.not_mem_nil,.inl rfl⟩
 | m :: ns,a=>by
  obtain ⟨h1,h2,h3⟩:=mV ns (max a m);rw [List.foldl_cons];refine ⟨by omega,fun n hn=>?_,?_⟩
  ·rcases List.mem_cons.mp hn with rfl | hn
   ·omega
   ·exact h2 n hn
  ·rcases h3 with e | e
   ·rcases (show max a m=a\/max a m=m by omega) with z | z
    ·left;rw [e,z]
    ·right;rw [e,z];exact List.mem_cons_self
   ·exact .inr (List.mem_cons_of_mem _ e)
theorem bD0 {ns:List Int}(h0:∀ n∈ns,0<=n) {i:Int}(hi:i∈ns) (hb:∀ n∈ns,n<=i):i=bA1 ns:=by
 obtain ⟨h1,h2,h3⟩:=mV ns 0;have a:=h2 i hi;have b:=h0 i hi;unfold bA1;rcases h3 with e | e
 ·omega
 ·have:=hb _ e;omega
def wK (d:TD) (k:Nat):Int:=bA1 (d.wss.map fun ws=>ws.getD k 0)
theorem xM {d:TD}(h:bG8 d) (k:Nat):0<=wK d k/\wK d k<=3:=by
 obtain ⟨h1,h2,h3⟩:=mV (d.wss.map fun ws=>ws.getD k 0) 0;refine ⟨h1,?_⟩;unfold wK bA1;rcases h3 with e | e
 ·omega
 ·obtain ⟨ws,hw,e2⟩:=List.mem_map.mp e;rw [<- e2,List.getD_eq_getElem?_getD]
  cases q:ws[k]? with
  | none=>exact by decide
  | some y=>exact ((h.ws ws hw).2 y (List.mem_of_getElem? q)).2
def kR (T:xP) (w:Int):Prc:=if w=0 then free else match T with
 | .lad p q _ _=>((q ^ w.toNat,p ^ w.toNat),(0,1))
 | .fla r _ _=>((1,1),dH (if 2 * r+1 < w then 2 * r+1 else w) (2 * r+1))
 | .cho p q _ _=>((q ^ w.toNat,p ^ w.toNat),(0,1))
 | .fst pa qa pb qb mk _ hi=>(dH (qa ^ w.toNat * qb ^ (2 * w).toNat) (pa ^ w.toNat * pb ^ (2 * w).toNat),dH (tN pa qa (hi - w - mk)) (tD pa qa (hi - w - mk)))
theorem pw1 {p:Int}(h:1<=p) (n:Nat):1<=p ^ n:=by have:0 < p ^ n:=Int.pow_pos (by omega);omega
theorem b4 {p:Int}(h0:0<=p) (h9:p<=9):cE 4 p:= .of h0 (by omega)
theorem pwb {p:Int}(h0:0<=p) (h9:p<=9) {n:Nat}(hn:n<=6):cE 25 (p ^ n):=(cE.pow (b4 h0 h9) n).mono (by omega)
theorem tJ.low {p q:Int}(c:tJ p q):dH q p=(q,p):=by
 have p1:=c.st.p1;have pq:=c.st.pq;unfold dH eS dU gI;rw [Nat.gcd_comm,c.co];simp
theorem cC2 {p q k:Int}(s:rP p q) (k0: -3<=k) (k9:k<=9):cE 42 (tD p q k)/\1<=tD p q k/\0<=tN p q k/\tN p q k<=tD p q k:=by
 have p1:=s.p1;have pq:=s.pq;have q9:=s.q9;have sb:∀ n:Nat,n<=9->cE 42 (nP p q n):=fun n hn=>by
  unfold nP;exact ((cE.of (n:=5) (i:=q+p) (by omega) (by omega)).mul (cE.pow (b4 (p:=q) (by omega) q9) n)).mono (by omega)
 refine ⟨?_,bU4 p1 pq k,cD1 p1 pq k,?_⟩
 ·unfold tD
  split
  ·exact sb _ (by omega)
  ·exact sb _ (by omega)
 ·unfold tN tD
  split
  ·exact aE8 p1 pq _
  ·have:=bI8 p1 pq (1 - k).toNat;omega
theorem zC {T:xP}(h:T.Ok) {w:Int}(w0:0<=w) (w3:w<=3):fQ (kR T w)/\fI 60 (kR T w).1/\fI 60 (kR T w).2:=by
 have b1:fI 60 ((1,1):Fr):=⟨by decide,by decide,by unfold cE;decide,by unfold cE;decide⟩
 have b0:fI 60 ((0,1):Fr):=⟨by decide,by decide,by unfold cE;decide,by unfold cE;decide⟩
 unfold kR
 split
 ·exact ⟨eG,b1,b0⟩
 have lc:∀ {p q:Int},tJ p q->qQ (q ^ w.toNat,p ^ w.toNat)/\fI 60 (q ^ w.toNat,p ^ w.toNat):=fun {p q} c=>by
  have p1:=c.st.p1;have pq:=c.st.pq;have q9:=c.st.q9;have e:=aF3 (x:=q) (y:=p) (by omega) p1 c.low w.toNat;exact ⟨⟨Int.pow_nonneg (by omega),pw1 p1 _,e⟩,⟨Int.pow_nonneg (by omega),pw1 p1 _,(pwb (by omega) q9 (by omega)).mono (by decide),(pwb (by omega) (by omega) (by omega)).mono (by decide)⟩⟩
 cases T with
 | lad p q lo hi=>have c:=lc h;exact ⟨⟨c.1,pJ⟩,c.2,b0⟩
 | cho p q lo hi=>have c:=lc h;exact ⟨⟨c.1,pJ⟩,c.2,b0⟩
 | fla r lo hi =>
  obtain ⟨r0,r4⟩:=h;have m0:0<=(if 2 * r+1 < w then 2 * r+1 else w)/\(if 2 * r+1 < w then 2 * r+1 else w)<=3:=by split <;> omega
  refine ⟨⟨aD0,kH m0.1 (by omega)⟩,b1,pV m0.1 (.of m0.1 (by omega)) (by omega) (.of (by omega) (by omega))⟩
 | fst pa qa pb qb mk lo hi =>
  obtain ⟨ca,cb,k0,k9⟩:=h;have p1:=ca.st.p1;have pq:=ca.st.pq;have q9:=ca.st.q9;have p1':=cb.st.p1;have pq':=cb.st.pq;have q9':=cb.st.q9;have t:=cC2 ca.st (k:=hi - w - mk) (by omega) (by omega);have m1:0<=qa ^ w.toNat * qb ^ (2 * w).toNat:=Int.mul_nonneg (Int.pow_nonneg (by omega)) (Int.pow_nonneg (by omega));have m2:1<=pa ^ w.toNat * pb ^ (2 * w).toNat:=by
   have:=Int.mul_pos (show 0 < pa ^ w.toNat by have:=pw1 p1 w.toNat;omega) (show 0 < pb ^ (2 * w).toNat by have:=pw1 p1' (2 * w).toNat;omega);omega
  have bn:cE 60 (tN pa qa (hi - w - mk)):=Nat.lt_of_le_of_lt (show (tN pa qa (hi - w - mk)).natAbs<=(tD pa qa (hi - w - mk)).natAbs by omega) (t.1.mono (by decide));exact ⟨⟨kH m1 m2,kH t.2.2.1 t.2.1⟩,pV m1 (((pwb (by omega) q9 (by omega)).mul (pwb (by omega) q9' (by omega))).mono (by decide)) m2 (((pwb (by omega) (by omega) (by omega)).mul (pwb (by omega) (by omega) (by omega))).mono (by decide)),pV t.2.2.1 bn t.2.1 (t.1.mono (by decide))⟩
mutual
def lH (ss:List Str) (k:Nat):Rw->Prc
 | .thr _ _ x d=>if x∈ss then kR d.T (wK d k) else free
 | .lt _ _ _=>free
 | .tell _ _=>free
 | .when _ _ _ _ a b=>pW (fB (qS ss k a)) (fB (qS ss k b))
 | .times _ _ n b=>kF n.toNat (fB (qS ss k b))
def qS (ss:List Str) (k:Nat):List Rw->List Prc
 | []=>[]
 | r :: rs=>lH ss k r :: qS ss k rs
end
theorem kN (ss:List Str) (k:Nat):∀ rs:List Rw,qS ss k rs=rs.map (lH ss k)
 | []=>rfl
 | r :: rs=>by simp only [qS,List.map_cons,kN ss k rs]
def gD (ss:List Str) (k:Nat) (rs:List Rw):Prc:=fB (qS ss k rs)
def bdL (n:Nat):Nat:=80 * n - 10
structure PB (n:Nat) (p:Prc):Prop where
 z:n=0->p=free
 f:1<=n->fI (bdL n) p.1
 r:1<=n->fI (bdL n) p.2
theorem fb1 {n:Nat}(h:1<=n):fI n ((1,1):Fr)/\fI n ((0,1):Fr):=by
 have b:∀ i:Int,i.natAbs<=1->cE n i:=fun i hi=>by
  unfold cE;have:2 ^ 1<=2 ^ n:=Nat.pow_le_pow_right (by decide) h;omega
 exact ⟨⟨by decide,by decide,b _ (by decide),b _ (by decide)⟩,⟨by decide,by decide,b _ (by decide),b _ (by decide)⟩⟩
theorem PB.up {m n:Nat}{p:Prc}(h:PB m p) (l:m<=n) (n1:1<=n):fI (bdL n) p.1/\fI (bdL n) p.2:=by
 by_cases c:m=0
 ·rw [h.z c];have:=fb1 (n:=bdL n) (by unfold bdL;omega);exact ⟨this.1,this.2⟩
 ·exact ⟨(h.f (by omega)).mono (by unfold bdL;omega),(h.r (by omega)).mono (by unfold bdL;omega)⟩
theorem PB.step {m n:Nat}{a p:Prc}(ha:PB m a) (hp:PB n p) (ra:fQ a) (rp:fQ p):PB (m+n) (jO a p):=by
 by_cases c:n=0
 ·have e:jO a p=a:=by rw [hp.z c];exact Prod.ext (bF4 ra.f) (aY0 ra.r)
  rw [e,c];exact ha
 ·by_cases d:m=0
  ·have e:jO a p=p:=by rw [ha.z d];exact Prod.ext (bF8 rp.f) (aU9 rp.r)
   rw [e,d,Nat.zero_add];exact hp
  ·have b1:=ha.f (by omega);have b2:=ha.r (by omega);have b3:=hp.f (by omega);have b4:=hp.r (by omega);exact ⟨fun z=>absurd z (by omega),fun _=>(bX6 b1 b3).mono (by unfold bdL;omega),fun _=>(cC1 b2 b4).mono (by unfold bdL;omega)⟩
theorem nX:PB 0 free:=⟨fun _=>rfl,fun h=>absurd h (by decide),fun h=>absurd h (by decide)⟩
theorem PB.when {m n:Nat}{a b:Prc}(ha:PB m a) (hb:PB n b):PB (m+n) (pW a b):=by
 refine ⟨fun z=>?_,fun h=>?_,fun h=>?_⟩
 ·rw [ha.z (by omega),hb.z (by omega)];unfold pW gC free;decide
 ·rcases iU a.1 b.1 with e | e
  ·show fI _ (gC a.1 b.1);rw [e];exact (ha.up (by omega) h).1
  ·show fI _ (gC a.1 b.1);rw [e];exact (hb.up (by omega) h).1
 ·rcases iU a.2 b.2 with e | e
  ·show fI _ (gC a.2 b.2);rw [e];exact (ha.up (by omega) h).2
  ·show fI _ (gC a.2 b.2);rw [e];exact (hb.up (by omega) h).2
theorem zH {m:Nat}{a:Prc}(ha:PB m a) (ra:fQ a):∀ n:Nat,PB (n * m) (fB (List.replicate n a))/\fQ (fB (List.replicate n a))
 | 0=>by rw [Nat.zero_mul];exact ⟨nX,eG⟩
 | n+1=>by
  obtain ⟨i1,i2⟩:=zH ha ra n;rw [List.replicate_succ',lY,Nat.succ_mul];exact ⟨i1.step ha i2 ra,lR i2 ra⟩
theorem pbz {ps:List Prc}{n:Nat}(h:∀ (a:Prc) (m:Nat),fQ a->PB m a->PB (m+n) (ps.foldl jO a)):PB n (fB ps):=by
 have:=h free 0 eG nX;rw [Nat.zero_add] at this;exact this
mutual
theorem aZ7 {H:Hp}(ss:List Str) (k:Nat):∀ (r:Rw),eT H r->fQ (lH ss k r)/\PB (mW r) (lH ss k r)
 | .thr p w x d,h=>by
  have wk:=xM h.2.ws k;have t:=zC h.2.ok wk.1 wk.2;simp only [lH,mW]
  split
  ·exact ⟨t.1,fun z=>absurd z (by decide),fun _=>t.2.1.mono (by decide),fun _=>t.2.2.mono (by decide)⟩
  ·exact ⟨eG,fun z=>absurd z (by decide),fun _=>(fb1 (by decide)).1,fun _=>(fb1 (by decide)).2⟩
 | .lt _ _ _,_=>by simp only [lH,mW];exact ⟨eG,nX⟩
 | .tell _ _,_=>by simp only [lH,mW];exact ⟨eG,nX⟩
 | .when _ _ _ _ a b,h=>by
  have i:=iC ss k a h.2.2.2.2.1;have j:=iC ss k b h.2.2.2.2.2;simp only [lH,mW];exact ⟨aV1 (lV i.1) (lV j.1),(pbz i.2).when (pbz j.2)⟩
 | .times _ _ n b,h=>by
  have i:=iC ss k b h.2.2;have s:=lV i.1;simp only [lH,mW];rw [<- tQ s];have r:=zH (pbz i.2) s n.toNat;exact ⟨r.2,r.1⟩
theorem iC {H:Hp}(ss:List Str) (k:Nat):∀ (rs:List Rw),bL H rs->(∀ p∈qS ss k rs,fQ p)/\∀ (a:Prc) (m:Nat),fQ a->PB m a->PB (m+iZ rs) ((qS ss k rs).foldl jO a)
 | [],_=>by simp only [qS,iZ];exact ⟨fun _ z=>absurd z List.not_mem_nil,fun a m _ h=>h⟩
 | r :: rs,⟨h,hs⟩=>by
  have i:=aZ7 ss k r h;have j:=iC ss k rs hs;simp only [qS,iZ];refine ⟨fun p hp=>?_,fun a m ra pa=>?_⟩
  ·rcases List.mem_cons.mp hp with rfl | hp
   ·exact i.1
   ·exact j.1 p hp
  ·rw [List.foldl_cons, <- Nat.add_assoc];exact j.2 _ _ (lR ra i.1) (pa.step i.2 ra i.1)
end
theorem hZ {H:Hp}(ss:List Str) (k:Nat) {rs:List Rw}(h:bL H rs):fQ (gD ss k rs)/\PB (iZ rs) (gD ss k rs):=⟨lV (iC ss k rs h).1,pbz (iC ss k rs h).2⟩
inductive Pt where
 | rows (p:Addr) (rs:List Rw)
 | row (r:Rw)
def Pt.p:Pt->Addr
 | .rows p _=>p
 | .row r=>r.p
def sW (H:Hp):Pt->Prop
 | .rows p rs=>H p=some (.tup (cI rs))/\bL H rs
 | .row r=>eT H r
theorem sW.ts {H H':Hp}(t:TS H H'):∀ {e:Pt},sW H e->sW H' e
 | .rows _ rs,h=>⟨t _ _ h.1,bL.ts t rs h.2⟩
 | .row r,h=>eT.ts t r h
def Pt.kids:Pt->List Pt
 | .rows _ rs=>rs.map Pt.row
 | .row (.when _ pa pb _ a b)=>[.rows pa a,.rows pb b]
 | .row (.times _ pb _ b)=>[.rows pb b]
 | .row (.thr _ _ _ _)=>[]
 | .row (.lt _ _ _)=>[]
 | .row (.tell _ _)=>[]
def Pt.pr (ss:List Str) (k:Nat):Pt->Prc
 | .rows _ rs=>gD ss k rs
 | .row r=>lH ss k r
def Pt.ld:Pt->Nat
 | .rows _ rs=>iZ rs
 | .row r=>mW r
theorem sW.kids {H:Hp}:∀ {e:Pt},sW H e->∀ c∈e.kids,sW H c
 | .rows _ rs,h,c,hc=>by
  obtain ⟨r,hr,rfl⟩:=List.mem_map.mp hc;exact h.2.mem r hr
 | .row (.when _ pa pb _ a b),h,c,hc=>by
  simp only [Pt.kids,List.mem_cons,List.not_mem_nil,or_false] at hc;rcases hc with rfl | rfl
  ·exact ⟨h.2.2.1,h.2.2.2.2.1⟩
  ·exact ⟨h.2.2.2.1,h.2.2.2.2.2⟩
 | .row (.times _ pb _ b),h,c,hc=>by
  simp only [Pt.kids,List.mem_cons,List.not_mem_nil,or_false] at hc;rw [hc];exact ⟨h.2.1,h.2.2⟩
 | .row (.thr _ _ _ _),_,_,hc=>absurd hc List.not_mem_nil
 | .row (.lt _ _ _),_,_,hc=>absurd hc List.not_mem_nil
 | .row (.tell _ _),_,_,hc=>absurd hc List.not_mem_nil
abbrev Plc:=List Int
abbrev PP:=Plc×Pt
def jE (pl:Plc) (i:Nat):List Pt->List PP
 | []=>[]
 | c :: cs=>(pl++[(i:Int)],c) :: jE pl (i+1) cs
def eV (e:PP):List PP:=jE e.1 0 e.2.kids
theorem wE (pl:Plc):∀ (i:Nat) (cs:List Pt),(jE pl i cs).length=cs.length
 | _,[]=>rfl
 | i,_ :: cs=>by simp only [jE,List.length_cons,wE pl (i+1) cs]
theorem aC1 (pl:Plc):∀ (i j:Nat) (cs:List Pt),(jE pl i cs)[j]?=(cs[j]?).map fun c=>(pl++[((i+j:Nat):Int)],c)
 | _,_,[]=>by simp [jE]
 | i,0,c :: cs=>by simp [jE]
 | i,j+1,c :: cs=>by
  simp only [jE,List.getElem?_cons_succ];rw [aC1 pl (i+1) j cs,show i+1+j=i+(j+1) by omega]
mutual
def dM (pl:Plc):Rw->List PP
 | .when p pa pb t a b=>(dI (pl++[0]) 0 a++[(pl++[0],.rows pa a)])++(dI (pl++[1]) 0 b++[(pl++[1],.rows pb b)])++[(pl,.row (.when p pa pb t a b))]
 | .times p pb n b=>(dI (pl++[0]) 0 b++[(pl++[0],.rows pb b)])++[(pl,.row (.times p pb n b))]
 | .thr p w x d=>[(pl,.row (.thr p w x d))]
 | .lt p x t=>[(pl,.row (.lt p x t))]
 | .tell p t=>[(pl,.row (.tell p t))]
def dI (pl:Plc) (i:Nat):List Rw->List PP
 | []=>[]
 | r :: rs=>dM (pl++[(i:Int)]) r++dI pl (i+1) rs
end
def eI:PP->List PP
 | (pl,.rows p rs)=>dI pl 0 rs++[(pl,.rows p rs)]
 | (pl,.row r)=>dM pl r
theorem vX (pl:Plc):∀ (i:Nat) (rs:List Rw),dI pl i rs=(jE pl i (rs.map Pt.row)).flatMap eI
 | _,[]=>by simp only [dI,List.map_nil,jE,List.flatMap_nil]
 | i,r :: rs=>by simp only [dI,List.map_cons,jE,List.flatMap_cons,vX pl (i+1) rs,eI]
theorem lZ:∀ e:PP,eI e=(eV e).flatMap eI++[e]
 | (pl,.rows p rs)=>by simp only [eI,eV,Pt.kids];rw [vX]
 | (pl,.row (.when p pa pb t a b))=>by simp [eI,dM,eV,Pt.kids,jE]
 | (pl,.row (.times p pb n b))=>by simp [eI,dM,eV,Pt.kids,jE]
 | (pl,.row (.thr _ _ _ _))=>by simp [eI,dM,eV,Pt.kids,jE]
 | (pl,.row (.lt _ _ _))=>by simp [eI,dM,eV,Pt.kids,jE]
 | (pl,.row (.tell _ _))=>by simp [eI,dM,eV,Pt.kids,jE]
theorem vE (e:PP):1<=(eI e).length:=by rw [lZ];simp
theorem aX9:∀ l:List PP,l.length<=(l.flatMap eI).length
 | []=>Nat.le_refl _
 | t :: r=>by have:=aX9 r;have:=vE t;rw [List.length_cons,List.flatMap_cons,List.length_append];omega
mutual
theorem aW5 (pl:Plc):∀ r:Rw,(dM pl r).length<=3 * r.cnt
 | .when p pa pb t a b=>by have:=jF (pl++[0]) 0 a;have:=jF (pl++[1]) 0 b;simp only [dM,Rw.cnt,List.length_append,List.length_cons,List.length_nil];omega
 | .times p pb n b=>by have:=jF (pl++[0]) 0 b;simp only [dM,Rw.cnt,List.length_append,List.length_cons,List.length_nil];omega
 | .thr _ _ _ _=>by simp only [dM,Rw.cnt,List.length_cons,List.length_nil];omega
 | .lt _ _ _=>by simp only [dM,Rw.cnt,List.length_cons,List.length_nil];omega
 | .tell _ _=>by simp only [dM,Rw.cnt,List.length_cons,List.length_nil];omega
theorem jF (pl:Plc) (i:Nat):∀ rs:List Rw,(dI pl i rs).length<=3 * cU rs
 | []=>by simp [dI]
 | r :: rs=>by have:=aW5 (pl++[(i:Int)]) r;have:=jF pl (i+1) rs;simp only [dI,cU,List.length_append];omega
end
def mK (L:List PP):Prop:=∀ A e B,L=A++e :: B->∀ c∈eV e,c∈A
theorem mK.nil:mK []:=fun A e B h=>by simp at h
theorem mK.app {L M:List PP}(a:mK L) (b:mK M):mK (L++M):=fun A e B h c hc=>by
 rcases List.append_eq_append_iff.mp h with ⟨as,h1,h2⟩ | ⟨bs,h1,h2⟩
 ·rw [h1];exact List.mem_append_right _ (b as e B h2 c hc)
 ·cases bs with
  | nil =>
   simp only [List.append_nil,List.nil_append] at h1 h2;rw [<- h1];have:=b [] e B h2.symm c hc;exact absurd this List.not_mem_nil
  | cons x bs =>
   simp only [List.cons_append,List.cons.injEq] at h2;rw [<- h2.1] at h1;exact a A e bs h1 c hc
theorem qH (e:PP):e∈eI e:=by rw [lZ];simp
theorem mK.flat:∀ {l:List PP},(∀ e∈l,mK (eI e))->mK (l.flatMap eI)
 | [],_=>mK.nil
 | e :: l,h=>by
  rw [List.flatMap_cons];exact (h e List.mem_cons_self).app (mK.flat fun x hx=>h x (List.mem_cons_of_mem _ hx))
theorem mK.ord {e:PP}(h:∀ c∈eV e,mK (eI c)):mK (eI e):=by
 have fl:=mK.flat h;intro A x B hx c hc;rw [lZ] at hx;rcases List.eq_nil_or_concat B with rfl | ⟨B',b,rfl⟩
 ·obtain ⟨h1,h2⟩:=List.append_inj' hx rfl;have h2:e=x:=by simpa using h2
  rw [<- h1];rw [<- h2] at hc;exact List.mem_flatMap.mpr ⟨c,hc,qH c⟩
 ·have hx':(eV e).flatMap eI++[e]=(A++x :: B')++[b]:=by rw [hx];simp
  obtain ⟨h1,_⟩:=List.append_inj' hx' rfl;exact fl A x B' h1 c hc
mutual
theorem cH0:∀ (r:Rw) (pl:Plc),mK (eI (pl,.row r))
 | .when p pa pb t a b,pl=>mK.ord fun c hc=>by
  simp only [eV,Pt.kids,jE,List.mem_cons,List.not_mem_nil,or_false] at hc;rcases hc with rfl | rfl
  ·exact mK.ord fun c hc=>vU a _ 0 c hc
  ·exact mK.ord fun c hc=>vU b _ 0 c hc
 | .times p pb n b,pl=>mK.ord fun c hc=>by
  simp only [eV,Pt.kids,jE,List.mem_cons,List.not_mem_nil,or_false] at hc;rw [hc];exact mK.ord fun c hc=>vU b _ 0 c hc
 | .thr _ _ _ _,pl=>mK.ord fun c hc=>absurd hc List.not_mem_nil
 | .lt _ _ _,pl=>mK.ord fun c hc=>absurd hc List.not_mem_nil
 | .tell _ _,pl=>mK.ord fun c hc=>absurd hc List.not_mem_nil
theorem vU:∀ (rs:List Rw) (pl:Plc) (i:Nat),∀ c∈jE pl i (rs.map Pt.row),mK (eI c)
 | [],_,_,c,hc=>absurd hc List.not_mem_nil
 | r :: rs,pl,i,c,hc=>by
  simp only [List.map_cons,jE] at hc;rcases List.mem_cons.mp hc with rfl | hc
  ·exact cH0 r _
  ·exact vU rs pl (i+1) c hc
end
theorem bB9 (pl:Plc) (p:Addr) (rs:List Rw):mK (eI (pl,.rows p rs)):=mK.ord fun c hc=>vU rs pl 0 c hc
def Ext (pl:Plc) (e:PP):Prop:=∃ s,e.1=pl++s
mutual
theorem cE5:∀ (r:Rw) (pl:Plc),∀ e∈dM pl r,Ext pl e
 | .when p pa pb t a b,pl,e,h=>by
  simp only [dM,List.mem_append,List.mem_cons,List.not_mem_nil,or_false] at h;rcases h with ((h | h) | (h | h)) | h
  ·obtain ⟨s,hs⟩:=qI a _ 0 e h;exact ⟨[0]++s,by rw [hs.1,List.append_assoc]⟩
  ·rw [h];exact ⟨[0],rfl⟩
  ·obtain ⟨s,hs⟩:=qI b _ 0 e h;exact ⟨[1]++s,by rw [hs.1,List.append_assoc]⟩
  ·rw [h];exact ⟨[1],rfl⟩
  ·rw [h];exact ⟨[],by simp⟩
 | .times p pb n b,pl,e,h=>by
  simp only [dM,List.mem_append,List.mem_cons,List.not_mem_nil,or_false] at h;rcases h with (h | h) | h
  ·obtain ⟨s,hs⟩:=qI b _ 0 e h;exact ⟨[0]++s,by rw [hs.1,List.append_assoc]⟩
  ·rw [h];exact ⟨[0],rfl⟩
  ·rw [h];exact ⟨[],by simp⟩
 | .thr _ _ _ _,pl,e,h=>by simp only [dM,List.mem_cons,List.not_mem_nil,or_false] at h;rw [h];exact ⟨[],by simp⟩
 | .lt _ _ _,pl,e,h=>by simp only [dM,List.mem_cons,List.not_mem_nil,or_false] at h;rw [h];exact ⟨[],by simp⟩
 | .tell _ _,pl,e,h=>by simp only [dM,List.mem_cons,List.not_mem_nil,or_false] at h;rw [h];exact ⟨[],by simp⟩
theorem qI:∀ (rs:List Rw) (pl:Plc) (i:Nat),∀ e∈dI pl i rs,∃ s,e.1=pl++s/\∃ (j:Nat) (u:Plc),i<=j/\s=(j:Int) :: u
 | [],_,_,e,h=>by simp only [dI] at h;exact absurd h List.not_mem_nil
 | r :: rs,pl,i,e,h=>by
  simp only [dI,List.mem_append] at h;rcases h with h | h
  ·obtain ⟨s,hs⟩:=cE5 r _ e h;exact ⟨(i:Int) :: s,by rw [hs,List.append_assoc];rfl,i,s,Nat.le_refl _,rfl⟩
  ·obtain ⟨s,h1,j,u,h2,h3⟩:=qI rs pl (i+1) e h;exact ⟨s,h1,j,u,by omega,h3⟩
end
def gA (l:List PP):List Plc:=l.map (·.1)
theorem aY4 (a b:List PP):gA (a++b)=gA a++gA b:=List.map_append
theorem pG {a b:List PP}(ha:(gA a).Nodup) (hb:(gA b).Nodup) (h:∀ x∈a,∀ y∈b,x.1≠y.1):(gA (a++b)).Nodup:=by
 rw [aY4,List.nodup_append];refine ⟨ha,hb,fun u hu v hv=>?_⟩;obtain ⟨x,hx,rfl⟩:=List.mem_map.mp hu;obtain ⟨y,hy,rfl⟩:=List.mem_map.mp hv;exact h x hx y hy
theorem mP (e:PP):(gA [e]).Nodup:=by simp [gA]
theorem aQ2 {pl s:Plc}(h:pl++s=pl):s=[]:=by
 have:=congrArg List.length h;rw [List.length_append] at this;exact List.eq_nil_of_length_eq_zero (by omega)
theorem nZ {pl:Plc}{p:Addr}{rs:List Rw}(h:(gA (dI pl 0 rs)).Nodup):(gA (dI pl 0 rs++[(pl,.rows p rs)])).Nodup:=pG h (mP _) fun x hx y hy=>by
 rw [List.mem_singleton.mp hy];obtain ⟨s,h1,j,u,_,h3⟩:=qI rs pl 0 x hx;intro e;have e:x.1=pl:=e;rw [h1] at e;have:=aQ2 e;rw [h3] at this
 cases this
theorem kJ {pl:Plc}{p:Addr}{rs:List Rw}:∀ e∈dI pl 0 rs++[(pl,.rows p rs)],Ext pl e:=fun e he=>by
 rcases List.mem_append.mp he with h | h
 ·obtain ⟨s,h1,_⟩:=qI rs pl 0 e h;exact ⟨s,h1⟩
 ·rw [List.mem_singleton.mp h];exact ⟨[],by simp⟩
theorem aW3 {pl:Plc}{i j:Int}(h:i≠j) {x y:PP}(hx:Ext (pl++[i]) x) (hy:Ext (pl++[j]) y):x.1≠y.1:=by
 obtain ⟨s,hs⟩:=hx;obtain ⟨t,ht⟩:=hy;rw [hs,ht,List.append_assoc,List.append_assoc];intro e;have:=List.append_cancel_left e;simp only [List.cons_append,List.cons.injEq] at this;exact h this.1
theorem yF {pl:Plc}{i:Int}{x:PP}{e:Pt}(hx:Ext (pl++[i]) x):x.1≠((pl,e):PP).1:=by
 obtain ⟨s,hs⟩:=hx;rw [hs,List.append_assoc];intro e;have:=aQ2 e
 cases this
mutual
theorem ndR:∀ (r:Rw) (pl:Plc),(gA (dM pl r)).Nodup
 | .when p pa pb t a b,pl=>by
  simp only [dM];refine pG (pG (nZ (aT9 a _ 0)) (nZ (aT9 b _ 0)) fun x hx y hy=>aW3 (by decide) (kJ x hx) (kJ y hy)) (mP _) fun x hx y hy=>?_
  rw [List.mem_singleton.mp hy];rcases List.mem_append.mp hx with h | h
  ·exact yF (kJ x h)
  ·exact yF (kJ x h)
 | .times p pb n b,pl=>by
  simp only [dM];refine pG (nZ (aT9 b _ 0)) (mP _) fun x hx y hy=>?_
  rw [List.mem_singleton.mp hy];exact yF (kJ x hx)
 | .thr _ _ _ _,pl=>by simp only [dM];exact mP _
 | .lt _ _ _,pl=>by simp only [dM];exact mP _
 | .tell _ _,pl=>by simp only [dM];exact mP _
theorem aT9:∀ (rs:List Rw) (pl:Plc) (i:Nat),(gA (dI pl i rs)).Nodup
 | [],_,_=>by simp only [dI];exact List.nodup_nil
 | r :: rs,pl,i=>by
  simp only [dI];refine pG (ndR r _) (aT9 rs pl (i+1)) fun x hx y hy=>?_
  obtain ⟨s,h1,j,u,h2,h3⟩:=qI rs pl (i+1) y hy;exact aW3 (pl:=pl) (i:=(i:Int)) (j:=(j:Int)) (by omega) (cE5 r _ x hx) ⟨u,by rw [h1,h3,List.append_assoc];rfl⟩
end
theorem bT0 (pl:Plc) (p:Addr) (rs:List Rw):(gA (eI (pl,.rows p rs))).Nodup:=nZ (aT9 rs pl 0)
mutual
theorem bM8 {H:Hp}:∀ (r:Rw) (pl:Plc),eT H r->∀ e∈dM pl r,sW H e.2
 | .when p pa pb t a b,pl,h,e,he=>by
  simp only [dM,List.mem_append,List.mem_cons,List.not_mem_nil,or_false] at he;rcases he with ((he | he) | (he | he)) | he
  ·exact lP a _ 0 h.2.2.2.2.1 e he
  ·rw [he];exact ⟨h.2.2.1,h.2.2.2.2.1⟩
  ·exact lP b _ 0 h.2.2.2.2.2 e he
  ·rw [he];exact ⟨h.2.2.2.1,h.2.2.2.2.2⟩
  ·rw [he];exact h
 | .times p pb n b,pl,h,e,he=>by
  simp only [dM,List.mem_append,List.mem_cons,List.not_mem_nil,or_false] at he;rcases he with (he | he) | he
  ·exact lP b _ 0 h.2.2 e he
  ·rw [he];exact ⟨h.2.1,h.2.2⟩
  ·rw [he];exact h
 | .thr _ _ _ _,pl,h,e,he=>by simp only [dM,List.mem_cons,List.not_mem_nil,or_false] at he;rw [he];exact h
 | .lt _ _ _,pl,h,e,he=>by simp only [dM,List.mem_cons,List.not_mem_nil,or_false] at he;rw [he];exact h
 | .tell _ _,pl,h,e,he=>by simp only [dM,List.mem_cons,List.not_mem_nil,or_false] at he;rw [he];exact h
theorem lP {H:Hp}:∀ (rs:List Rw) (pl:Plc) (i:Nat),bL H rs->∀ e∈dI pl i rs,sW H e.2
 | [],_,_,_,e,he=>by simp only [dI] at he;exact absurd he List.not_mem_nil
 | r :: rs,pl,i,⟨h,hs⟩,e,he=>by
  simp only [dI,List.mem_append] at he;rcases he with he | he
  ·exact bM8 r _ h e he
  ·exact lP rs pl (i+1) hs e he
end
theorem bJ2 {H:Hp}{pl:Plc}{p:Addr}{rs:List Rw}(h:H p=some (.tup (cI rs))) (hs:bL H rs):∀ e∈eI (pl,.rows p rs),sW H e.2:=fun e he=>by
 rcases List.mem_append.mp he with z | z
 ·exact lP rs pl 0 hs e z
 ·rw [List.mem_singleton.mp z];exact ⟨h,hs⟩
mutual
theorem bA5 {kd:Int}:∀ (r:Rw) (pl:Plc),(∀ q∈r.flat,KdR kd q)->∀ e∈dM pl r,e.2.ld<=mW r/\e.1.length<=pl.length+2 * qR r/\(∀ q,e.2= .row q->q∈r.flat)
 | .when p pa pb t a b,pl,hk,e,he=>by
  simp only [Rw.flat] at hk;simp only [dM,List.mem_append,List.mem_cons,List.not_mem_nil,or_false] at he;have ha:∀ q∈bK a,KdR kd q:=fun q hq=>hk q (List.mem_cons_of_mem _ (List.mem_append_left _ hq))
  have hb:∀ q∈bK b,KdR kd q:=fun q hq=>hk q (List.mem_cons_of_mem _ (List.mem_append_right _ hq))
  rcases he with ((he | he) | (he | he)) | he
  ·have:=jX a (pl++[0]) 0 ha e he;simp only [mW,qR,Rw.flat];rw [List.length_append,List.length_singleton] at this;exact ⟨by omega,by omega,fun q hq=>List.mem_cons_of_mem _ (List.mem_append_left _ (this.2.2 q hq))⟩
  ·rw [he];simp only [mW,qR,Rw.flat,Pt.ld,List.length_append,List.length_singleton];exact ⟨by omega,by omega,fun q hq=>by cases hq⟩
  ·have:=jX b (pl++[1]) 0 hb e he;simp only [mW,qR,Rw.flat];rw [List.length_append,List.length_singleton] at this;exact ⟨by omega,by omega,fun q hq=>List.mem_cons_of_mem _ (List.mem_append_right _ (this.2.2 q hq))⟩
  ·rw [he];simp only [mW,qR,Rw.flat,Pt.ld,List.length_append,List.length_singleton];exact ⟨by omega,by omega,fun q hq=>by cases hq⟩
  ·rw [he];exact ⟨Nat.le_refl _,Nat.le_add_right _ _,fun q hq=>by cases hq;simp [Rw.flat]⟩
 | .times p pb n b,pl,hk,e,he=>by
  simp only [Rw.flat] at hk;simp only [dM,List.mem_append,List.mem_cons,List.not_mem_nil,or_false] at he;have hb:∀ q∈bK b,KdR kd q:=fun q hq=>hk q (List.mem_cons_of_mem _ hq)
  have hn:1<=n/\n<=3:=hk _ List.mem_cons_self;have le:iZ b<=n.toNat * iZ b:=by
   have:=Nat.mul_le_mul_right (iZ b) (show 1<=n.toNat by omega);omega
  rcases he with (he | he) | he
  ·have:=jX b (pl++[0]) 0 hb e he;simp only [mW,qR,Rw.flat];rw [List.length_append,List.length_singleton] at this;exact ⟨by omega,by omega,fun q hq=>List.mem_cons_of_mem _ (this.2.2 q hq)⟩
  ·rw [he];simp only [mW,qR,Rw.flat,Pt.ld,List.length_append,List.length_singleton];exact ⟨by omega,by omega,fun q hq=>by cases hq⟩
  ·rw [he];exact ⟨Nat.le_refl _,Nat.le_add_right _ _,fun q hq=>by cases hq;simp [Rw.flat]⟩
 | .thr _ _ _ _,pl,_,e,he=>by simp only [dM,List.mem_cons,List.not_mem_nil,or_false] at he;rw [he];exact ⟨Nat.le_refl _,Nat.le_add_right _ _,fun q hq=>by cases hq;simp [Rw.flat]⟩
 | .lt _ _ _,pl,_,e,he=>by simp only [dM,List.mem_cons,List.not_mem_nil,or_false] at he;rw [he];exact ⟨Nat.le_refl _,Nat.le_add_right _ _,fun q hq=>by cases hq;simp [Rw.flat]⟩
 | .tell _ _,pl,_,e,he=>by simp only [dM,List.mem_cons,List.not_mem_nil,or_false] at he;rw [he];exact ⟨Nat.le_refl _,Nat.le_add_right _ _,fun q hq=>by cases hq;simp [Rw.flat]⟩
theorem jX {kd:Int}:∀ (rs:List Rw) (pl:Plc) (i:Nat),(∀ q∈bK rs,KdR kd q)->∀ e∈dI pl i rs,e.2.ld<=iZ rs/\e.1.length<=pl.length+1+2 * fF rs/\(∀ q,e.2= .row q->q∈bK rs)
 | [],_,_,_,e,he=>by simp only [dI] at he;exact absurd he List.not_mem_nil
 | r :: rs,pl,i,hk,e,he=>by
  simp only [bK] at hk;simp only [dI,List.mem_append] at he;simp only [iZ,fF,bK];rcases he with he | he
  ·have:=bA5 r (pl++[(i:Int)]) (fun q hq=>hk q (List.mem_append_left _ hq)) e he;rw [List.length_append,List.length_singleton] at this;exact ⟨by omega,by omega,fun q hq=>List.mem_append_left _ (this.2.2 q hq)⟩
  ·have:=jX rs pl (i+1) (fun q hq=>hk q (List.mem_append_right _ hq)) e he;exact ⟨by omega,by omega,fun q hq=>List.mem_append_right _ (this.2.2 q hq)⟩
end
theorem zN {kd:Int}{p:Addr}{rs:List Rw}(hk:iE kd rs):∀ e∈eI ([],.rows p rs),e.2.ld<=iZ rs/\e.1.length<=1+2 * fF rs/\(∀ q,e.2= .row q->KdR kd q):=fun e he=>by
 rcases List.mem_append.mp he with z | z
 ·have:=jX rs [] 0 hk e z;rw [List.length_nil,Nat.zero_add] at this;exact ⟨this.1,this.2.1,fun q hq=>hk q (this.2.2 q hq)⟩
 ·rw [List.mem_singleton.mp z];exact ⟨Nat.le_refl _,by show 0<=_;omega,fun q hq=>by cases hq⟩
def bU (K:W.Frag) (H:Hp) (p:Addr) (u:Fr):Prop:=aX K H p [.int u.1,.int u.2]
theorem aX.ts {K:W.Frag}{H H':Hp}(s:aZ H H') {a:Addr}{xs:List V}:aX K H a xs->aX K H' a xs
 | .inl (.inl h)=> .inl (.inl (s _ _ h))
 | .inl (.inr ⟨o,h⟩)=> .inl (.inr ⟨o,s _ _ h⟩)
 | .inr h=> .inr h
theorem bU.of {K:W.Frag}{H:Hp}{p:Addr}{a b:Int}(h:fH H p a b):bU K H p (a,b):=aX.of h
theorem bU.ofU {K:W.Frag}{H:Hp}{p:Addr}{u:Fr}(h:H p=some (.tup [.int u.1,.int u.2])):bU K H p u:=aX.of h
theorem bU.s {K:W.Frag}{H H':Hp}(s:aZ H H') {p:Addr}{u:Fr}(h:bU K H p u):bU K H' p u:=aX.ts s h
def dE (K:W.Frag) (H:Hp) (v:V) (P:Prc):Prop:=∃ a x y,v= .ref a/\aX K H a [.ref x,.ref y]/\bU K H x P.1/\bU K H y P.2
theorem dE.s {K:W.Frag}{H H':Hp}(s:aZ H H') {v:V}{P:Prc}:dE K H v P->dE K H' v P
 | ⟨a,x,y,e,h,h1,h2⟩=>⟨a,x,y,e,aX.ts s h,h1.s s,h2.s s⟩
def FrK (K:W.Frag) (H:Hp) (v:V) (u:Fr):Prop:=∃ a,v= .ref a/\bU K H a u
theorem FrK.s {K:W.Frag}{H H':Hp}(s:aZ H H') {v:V}{u:Fr}:FrK K H v u->FrK K H' v u
 | ⟨a,e,h⟩=>⟨a,e,h.s s⟩
def spLowX:Sp:=fun vs H Q _=>∃ a b:Int,vs=[.int a,.int b]/\0<=a/\1<=b/\(∃ n,cE n b/\n<=8990)/\∀ p,H p=none->Q (.ref p) (aW H p (.tup [.int (dH a b).1,.int (dH a b).2]))
def lD (K:W.Frag):Sp:=fun vs H Q _=>∃ (p q:Addr) (u e:Fr),vs=[.ref p,.ref q]/\bU K H p u/\bU K H q e/\fI 1000 u/\fI 1000 e/\∀ r,H r=none->Q (.ref r) (aW H r (.tup [.int (fJ u e).1,.int (fJ u e).2]))
def tY (K:W.Frag):Sp:=fun vs H Q _=>∃ (p q:Addr) (u e:Fr),vs=[.ref p,.ref q]/\bU K H p u/\bU K H q e/\fI 1000 u/\fI 1000 e/\∀ r,H r=none->Q (.ref r) (aW H r (.tup [.int (vL u e).1,.int (vL u e).2]))
def nQ (K:W.Frag):Sp:=fun vs H Q _=>∃ (p q:Addr) (u e:Fr),vs=[.ref p,.ref q]/\bU K H p u/\bU K H q e/\fI 1000 u/\fI 1000 e/\Q (.bl (decide (u.1 * e.2 < e.1 * u.2))) H
def tV (K:W.Frag):Sp:=fun vs H Q _=>∃ (p:Addr) (u:Fr) (k:Int),vs=[.ref p,.int k]/\bU K H p u/\cE 1000 u.1/\cE 1000 u.2/\0<=k/\k<=21/\∀ r,H r=none->Q (.ref r) (aW H r (.tup [.int (u.1 ^ k.toNat),.int (u.2 ^ k.toNat)]))
def spTPow:Sp:=fun vs H Q _=>∃ (st:Addr) (p q k:Int),vs=[.ref st,.int k]/\fH H st p q/\rP p q/\0<=k/\k<=6/\∀ H' r,aZ H H'->fH H' r (q ^ k.toNat) (p ^ k.toNat)->Q (.ref r) H'
def spPowI:Sp:=fun vs H Q _=>∃ (a k:Int),vs=[.int a,.int k]/\0<=a/\a<=9/\0<=k/\k<=21/\Q (.int (a ^ k.toNat)) H
def qU (k:Nat):Rw->Prc
 | .thr _ _ _ d=>kR d.T (wK d k)
 | .lt _ _ _=>free
 | .tell _ _=>free
 | .when _ _ _ _ _ _=>free
 | .times _ _ _ _=>free
def spOne4:Sp:=fun vs H Q _=>∃ T:xP,vs=[.str T.wd]/\∀ H',aZ H H'->Q (.bl T.one) H'
def spPlc4:Sp:=fun vs H Q _=>∃ T:xP,vs=[.str T.wd]/\Q (.int (if T.wd="first" then 5 else 2)) H
def spSumT:Sp:=fun vs H Q _=>∃ p w x d,vs=[.ref p]/\eT H (.thr p w x d)/\∀ H' t us,aZ H H'->H' t=some (.tup us)->dP (nO H') us d.wss->Q (.ref t) H'
def bI7 (K:W.Frag):Sp:=fun vs H Q _=>∃ p w x d,∃ k:Nat,vs=[.ref p,.int k]/\eT H (.thr p w x d)/\k < d.kd/\∀ H' v,aZ H H'->dE K H' v (kR d.T (wK d k))->Q v H'
def aS6 (K:W.Frag):Sp:=fun vs H Q _=>∃ r,∃ k:Nat,vs=[.ref r.p,.int k]/\eT H r/\(∀ p w x d,r= .thr p w x d->k < d.kd)/\∀ H' v,aZ H H'->dE K H' v (qU k r)->Q v H'
def SqB (ps:List Prc):Prop:=(∀ p∈ps,fI 1000 p.1/\fI 1000 p.2)/\∀ i,fI 1000 (fB (ps.take i)).1/\fI 1000 (fB (ps.take i)).2
def bJ6 (K:W.Frag):Sp:=fun vs H Q _=>∃ l us ps,vs=[.ref l]/\H l=some (.lst us)/\us.length<=4000/\dP (dE K H) us ps/\SqB ps/\∀ H' v,aZ H H'->dE K H' v (fB ps)->Q v H'
def grL:List Fr->Fr
 | []=>(0,1)
 | f :: fs=>(f :: fs).foldl gC f
def bK1 (K:W.Frag):Sp:=fun vs H Q _=>∃ l us fs,vs=[.ref l]/\H l=some (.lst us)/\1<=fs.length/\fs.length<=1000/\dP (FrK K H) us fs/\(∀ f∈fs,fI 1000 f)/\∀ v,FrK K H v (grL fs)->Q v H
def aV4 (K:W.Frag):Sp:=fun vs H Q _=>∃ l us ps,vs=[.ref l]/\H l=some (.lst us)/\1<=ps.length/\ps.length<=1000/\dP (dE K H) us ps/\(∀ p∈ps,fI 1000 p.1/\fI 1000 p.2)/\∀ H' v,aZ H H'->dE K H' v (grL (ps.map (·.1)),grL (ps.map (·.2)))->Q v H'
def Pt.isRow:Pt->Bool
 | .rows _ _=>false
 | .row _=>true
def spIsRow:Sp:=fun vs H Q _=>∃ e:Pt,vs=[.ref e.p]/\sW H e/\Q (.bl e.isRow) H
def gL (cs:List Pt):List V:=cs.map fun c=>V.ref c.p
def spPRI:Sp:=fun vs H Q _=>∃ e:Pt,vs=[.ref e.p]/\sW H e/\∀ r H',aZ H H'->H r=none->H' r=some (.lst (gL e.kids))->Q (.ref r) H'
def wW (H:Hp) (v:V) (pl:Plc):Prop:=∃ a,v= .ref a/\H a=some (.tup (pl.map V.int))
theorem wW.ts {H H':Hp}(t:TS H H') {v:V}{pl:Plc}:wW H v pl->wW H' v pl
 | ⟨a,e,h⟩=>⟨a,e,t _ _ h⟩
def spPlRI:Sp:=fun vs H Q _=>∃ (e:PP) (q:Addr),vs=[.ref q,.ref e.2.p]/\H q=some (.tup (e.1.map V.int))/\e.1.length<=100/\e.2.kids.length<=4000/\sW H e.2/\∀ r zs H',aZ H H'->H r=none->H' r=some (.lst zs)->dP (wW H') zs ((eV e).map (·.1))->Q (.ref r) H'
def uB (H:Hp) (z:V) (e:PP):Prop:=∃ q a,z= .ref q/\H q=some (.tup [.ref a,.ref e.2.p])/\H a=some (.tup (e.1.map V.int))
theorem uB.ts {H H':Hp}(t:TS H H') {z:V}{e:PP}:uB H z e->uB H' z e
 | ⟨q,a,e1,h1,h2⟩=>⟨q,a,e1,t _ _ h1,t _ _ h2⟩
def spPlOf:Sp:=fun vs H Q _=>∃ p rs kd,vs=[.ref p]/\H p=some (.tup (cI rs))/\bL H rs/\cU rs<=1300/\fF rs<=3/\iE kd rs/\∀ r zs H',aZ H H'->H' r=some (.lst zs)->dP (uB H') zs (eI ([],.rows p rs))->Q (.ref r) H'
def Pt.made:Pt->Bool
 | .rows _ _=>true
 | .row (.when _ _ _ _ _ _)=>true
 | .row (.times _ _ _ _)=>true
 | .row (.thr _ _ _ _)=>false
 | .row (.lt _ _ _)=>false
 | .row (.tell _ _)=>false
def aR4 (K:W.Frag):Sp:=fun vs H Q _=>∃ (e:Pt) (l:Addr) (us:List V) (ss:List Str) (k:Nat) (kd:Int),vs=[.ref e.p,.ref l]/\sW H e/\e.made=true/\e.ld<=6/\(∀ q,e= .row q->KdR kd q)/\e.kids.length<=4000/\H l=some (.lst us)/\dP (dE K H) us (e.kids.map (Pt.pr ss k))/\∀ H' v,aZ H H'->dE K H' v (e.pr ss k)->Q v H'
def KnN (H:Hp) (p:Addr) (rs:List Rw) (n:Nat):Prop:=∃ (pk:Addr) (ks:List Str) (w:V),H p=some (.tup [.ref pk,w])/\H pk=some (.tup (ks.map V.str))/\ks.length=n/\1<=n/\n<=3/\iE (n:Int) rs
theorem KnN.ts {H H':Hp}(t:TS H H') {p:Addr}{rs:List Rw}{n:Nat}:KnN H p rs n->KnN H' p rs n
 | ⟨pk,ks,w,a,b,c⟩=>⟨pk,ks,w,t _ _ a,t _ _ b,c⟩
theorem jR.knn {H:Hp}{p:Addr}{xs:List Str}{rs:List Rw}(P:jR H p xs rs):∃ n,KnN H p rs n:=let ⟨pk,ks,w,a,b,c,d,e⟩:=P.kn;⟨ks.length,pk,ks,w,a,b,rfl,c,d,e⟩
def bK2 (K:W.Frag):Sp:=fun vs H Q _=>∃ (p:Addr) (xs:List Str) (rs:List Rw) (k n:Nat),vs=[.ref p,.int k]/\jR H p xs rs/\KnN H p rs n/\k < n /\
 ∀ H' d kvs ss v,aZ H H'->H' d=some (.dT kvs)->NdS rs ss->cM kvs ([]:List Key)=some v->dE K H' v (gD ss k rs)->Q (.ref d) H'
def aX2 (K:W.Frag):Sp:=fun vs H Q _=>∃ (p:Addr) (xs:List Str) (rs:List Rw) (k n:Nat),vs=[.ref p,.int k]/\jR H p xs rs/\KnN H p rs n/\k < n /\
 ∀ H' ss v,aZ H H'->NdS rs ss->dE K H' v (gD ss k rs)->Q v H'
def iJ (ss:List Str) (rs:List Rw) (n:Nat):List Prc:=(List.range n).map fun k=>gD ss k rs
def bK9 (K:W.Frag):Sp:=fun vs H Q _=>∃ (p:Addr) (xs:List Str) (rs:List Rw) (n:Nat),vs=[.ref p]/\jR H p xs rs/\KnN H p rs n /\
 ∀ H' ss v,aZ H H'->NdS rs ss->dE K H' v (grL ((iJ ss rs n).map (·.1)),grL ((iJ ss rs n).map (·.2)))->Q v H'
def aE9:Nat->Sp
 | 0=>fun _ _ _ _=>False
 | n+1=>fun vs H Q _=>∃ (st:Addr) (p q k:Int),vs=[.ref st,.int k]/\fH H st p q/\rP p q/\ -9<=k/\k<=20/\(n=0->0<=k)/\∀ H' r,aZ H H'->fH H' r (tN p q k) (tD p q k)->Q (.ref r) H'
def aV0 (K:W.Frag):Sp:=fun vs H Q _=>∃ r,∃ k:Nat,vs=[.ref r.p,.int k]/\eT H r/\(r.w∈(["when","times"]:List Str)->False)/\(∀ p w x d,r= .thr p w x d->k < d.kd)/\∀ H' v,aZ H H'->dE K H' v (qU k r)->Q v H'
def bA0 (K:W.Frag):Sp:=fun vs H Q _=>∃ (p q:Addr) (u e:Fr),vs=[.ref p,.ref q]/\bU K H p u/\bU K H q e/\fI 1000 u/\fI 1000 e/\∀ H' r,aZ H H'->bU K H' r (gC u e)->Q (.ref r) H'
def Pt.rule (ss:List Str):Pt->Str
 | .rows _ _=>"rows"
 | .row (.when _ _ _ _ _ _)=>"either"
 | .row (.times _ _ _ _)=>"again"
 | .row (.thr _ _ x _)=>if x∈ss then "throw" else "idle"
 | .row (.lt _ x _)=>if x∈ss then "plain" else "idle"
 | .row (.tell _ _)=>"plain"
def spRule:Sp:=fun vs H Q _=>∃ (e:Pt) (np:Addr) (ss:List Str),vs=[.ref e.p,.ref np]/\sW H e/\H np=some (.lst (ss.map V.str))/\∀ H',aZ H H'->Q (.str (e.rule ss)) H'
def spInn:Sp:=fun vs H Q _=>∃ (e:Pt),vs=[.ref e.p]/\sW H e/\e.kids.length<=4000/\∀ r H',aZ H H'->H r=none->H' r=some (.lst (gL e.kids))->Q (.ref r) H'
def Pt.dp:Pt->Nat
 | .rows _ rs=>2 * fF rs+1
 | .row r=>2 * qR r
def bJ4 (K:W.Frag):Sp:=fun vs H Q _=>∃ (e:Pt) (l:Addr) (us:List V) (ss:List Str) (k:Nat) (kd:Int),vs=[.str (e.rule ss),.ref e.p,.ref l,.int k]/\sW H e/\e.ld<=6/\(∀ q,e= .row q->KdR kd q)/\(k:Int) < kd/\e.kids.length<=4000/\H l=some (.lst us)/\dP (dE K H) us (e.kids.map (Pt.pr ss k))/\∀ H' v,aZ H H'->dE K H' v (e.pr ss k)->Q v H'
def aZ2 (K:W.Frag):Sp:=fun vs H Q _=>∃ v u P,vs=[v,u]/\dE K H v P/\dE K H u P/\fI 1000 P.1/\fI 1000 P.2/\Q (.bl true) H
theorem bC7 {H:Hp}{d:TD}{x:Str}(h:aI5 H d):∃ a,jA (.str d.T.wd :: .str x :: d.vs) (if d.T.wd="first" then 5 else 2)=some a /\
  ((d.T.one=true/\∃ w ws,a= .ref w/\H w=some (.tup (ws.map V.int))/\d.wss=[ws])\/(d.T.one=false/\∃ sm us,a= .ref sm/\H sm=some (.tup us)/\dP (nO H) us d.wss)):=by
 obtain ⟨vs,T,wss,kd⟩:=d
 cases T with
 | lad p q lo hi =>
  obtain ⟨w,ws,st,e,e2,h1,_⟩:=h;refine ⟨.ref w,?_,.inl ⟨rfl,w,ws,rfl,h1,e2⟩⟩;show jA (.str "ladder" :: .str x :: vs) (if ("ladder": Str)="first" then 5 else 2)=_;rw [if_neg (show ¬ (("ladder": Str)="first") by decide +kernel),show vs=_ from e];rfl
 | fla r lo hi =>
  obtain ⟨w,ws,e,e2,h1⟩:=h;refine ⟨.ref w,?_,.inl ⟨rfl,w,ws,rfl,h1,e2⟩⟩;show jA (.str "flat" :: .str x :: vs) (if ("flat": Str)="first" then 5 else 2)=_;rw [if_neg (show ¬ (("flat": Str)="first") by decide +kernel),show vs=_ from e];rfl
 | cho p q lo hi =>
  obtain ⟨sm,us,st,e,h1,h2,_⟩:=h;refine ⟨.ref sm,?_,.inr ⟨rfl,sm,us,rfl,h1,h2⟩⟩;show jA (.str "choose" :: .str x :: vs) (if ("choose": Str)="first" then 5 else 2)=_;rw [if_neg (show ¬ (("choose": Str)="first") by decide +kernel),show vs=_ from e];rfl
 | fst pa qa pb qb mk lo hi =>
  obtain ⟨sm,us,sa,sb,e,h1,h2,_⟩:=h;refine ⟨.ref sm,?_,.inr ⟨rfl,sm,us,rfl,h1,h2⟩⟩;show jA (.str "first" :: .str x :: vs) (if ("first": Str)="first" then 5 else 2)=_;rw [if_pos rfl,show vs=_ from e];rfl
theorem bT6:∀ T:xP,lC (V.str T.wd) [.str "ladder",.str "flat"]=T.one
 | .lad .. =>by show lC (V.str "ladder") [.str "ladder",.str "flat"]=true;decide +kernel
 | .fla .. =>by show lC (V.str "flat") [.str "ladder",.str "flat"]=true;decide +kernel
 | .cho .. =>by show lC (V.str "choose") [.str "ladder",.str "flat"]=false;decide +kernel
 | .fst .. =>by show lC (V.str "first") [.str "ladder",.str "flat"]=false;decide +kernel
theorem nFL:¬ (V.str "ladder"=V.str "flat"):=by decide +kernel
theorem nFC:¬ (V.str "choose"=V.str "flat"):=by decide +kernel
theorem nFF:¬ (V.str "first"=V.str "flat"):=by decide +kernel
theorem nIL:¬ (V.str "ladder"=V.str "first"):=by decide +kernel
theorem nIC:¬ (V.str "choose"=V.str "first"):=by decide +kernel
theorem bJ1 {d:TD}(h:bG8 d) {k:Nat}{i:Int}(hi:i∈d.wss.map fun ws=>ws.getD k 0) (hb:∀ n∈d.wss.map (fun ws=>ws.getD k 0),n<=i):i=wK d k:=by
 refine bD0 (fun n hn=>?_) hi hb;obtain ⟨ws,hw,rfl⟩:=List.mem_map.mp hn;rw [List.getD_eq_getElem?_getD]
 cases q:ws[k]? with
 | none=>exact Int.le_refl _
 | some y=>exact ((h.ws ws hw).2 y (List.mem_of_getElem? q)).1
theorem bJ9 {ws:List Int}{k:Nat}(h:k < ws.length):(ws.map V.int)[k]?=some (.int (ws.getD k 0)):=by
 rw [List.getElem?_map,List.getD_eq_getElem?_getD,List.getElem?_eq_getElem h];rfl
theorem aX0 {d:TD}(h:bG8 d) (k:Nat):(d.wss.map fun ws=>ws.getD k 0)≠[]:=fun z=>by
 have e:=congrArg List.length z;rw [List.length_map] at e;have l:=h.l1;rw [List.length_nil] at e;omega
theorem aC4 {H:Hp}{us:List V}{wss:List (List Int)}(tw:dP (nO H) us wss) (k:Nat):(wss.map fun ws=>ws.getD k 0).take us.length=wss.map fun ws=>ws.getD k 0:=by
 rw [tw.length, <- List.length_map (f:=fun ws:List Int=>ws.getD k 0) (as:=wss),List.take_length]
theorem bA3 {f:Fr}{fs:List Fr}{i:Nat}{g:Fr}(h:fs[i]?=some g):(fs.take (i+1)).foldl gC f=gC ((fs.take i).foldl gC f) g:=by
 rw [bF h,List.foldl_append];rfl
theorem bF0 {n:Nat}:∀ {fs:List Fr}{f:Fr},fI n f->(∀ g∈fs,fI n g)->fI n (fs.foldl gC f)
 | [],_,h,_=>h
 | g :: fs,f,h,k=>by
  rw [List.foldl_cons];refine bF0 ?_ fun x hx=>k x (List.mem_cons_of_mem _ hx)
  rcases iU f g with e | e
  ·rw [e];exact h
  ·rw [e];exact k g List.mem_cons_self
theorem bZ8 {X:Cx}(K:W.Frag) (hK:X.K=K:=by rfl):lB X (binaryOp .Add) (bK8 K):=by subst hK;exact zS
theorem nTW:¬ (V.str "times"=V.str "when"):=by decide +kernel
theorem nLW:¬ (V.str "let"=V.str "when")/\¬ (V.str "let"=V.str "times"):=by decide +kernel
theorem nEW:¬ (V.str "tell"=V.str "when")/\¬ (V.str "tell"=V.str "times"):=by decide +kernel
theorem pC {H:Hp}{w:Str}{d:TD}(h:iQ H w d):¬ (V.str w=V.str "when")/\¬ (V.str w=V.str "times"):=by
 rw [h.wd]
 cases d.T with
 | lad _ _ _ _=>show ¬ (V.str "ladder"=V.str "when")/\¬ (V.str "ladder"=V.str "times");decide +kernel
 | fla _ _ _=>show ¬ (V.str "flat"=V.str "when")/\¬ (V.str "flat"=V.str "times");decide +kernel
 | cho _ _ _ _=>show ¬ (V.str "choose"=V.str "when")/\¬ (V.str "choose"=V.str "times");decide +kernel
 | fst _ _ _ _ _ _ _=>show ¬ (V.str "first"=V.str "when")/\¬ (V.str "first"=V.str "times");decide +kernel
theorem aE0 (rs:List Rw):gL (rs.map Pt.row)=cI rs:=by
 unfold gL cI;rw [List.map_map];rfl
theorem eR (cs:List Pt):(gL cs).length=cs.length:=by unfold gL;rw [List.length_map]
theorem iX (e:PP):(eV e).length=e.2.kids.length:=wE _ _ _
theorem uQ {e:PP}{i:Nat}{c:Pt}(h:e.2.kids[i]?=some c):(eV e)[i]?=some (e.1++[(i:Int)],c):=by
 unfold eV;rw [aC1,h,Nat.zero_add];rfl
theorem xW {e:PP}{i:Nat}(h:i < e.2.kids.length):((eV e).map (·.1))[i]?=some (e.1++[(i:Int)]):=by
 rw [List.getElem?_map,uQ (List.getElem?_eq_getElem h)];rfl
theorem nN {n:Nat}{p:Prc}(h:PB n p) (l:n<=6):fI 1000 p.1/\fI 1000 p.2:=⟨(h.up l (by decide)).1.mono (by decide),(h.up l (by decide)).2.mono (by decide)⟩
theorem bL.take {H:Hp}:∀ {rs:List Rw}(i:Nat),bL H rs->bL H (rs.take i)
 | [],i,_=>by rw [List.take_nil];trivial
 | r :: rs,0,_=>trivial
 | r :: rs,i+1,⟨h,k⟩=>⟨h,bL.take i k⟩
theorem bH3 (rs:List Rw) (i:Nat):iZ (rs.take i)<=iZ rs:=by
 have:=jM (rs.take i) (rs.drop i);rw [List.take_append_drop] at this;omega
theorem xS:∀ {rs:List Rw}{r:Rw},r∈rs->mW r<=iZ rs
 | _ :: rs,r,h=>by
  simp only [iZ];rcases List.mem_cons.mp h with rfl | h
  ·omega
  ·have:=xS h;omega
theorem aX5 {H:Hp}{ss:List Str}{k:Nat}{rs:List Rw}(h:bL H rs) (l:iZ rs<=6):SqB (qS ss k rs):=by
 refine ⟨fun p hp=>?_,fun i=>?_⟩
 ·rw [kN] at hp;obtain ⟨r,hr,rfl⟩:=List.mem_map.mp hp;have:=xS hr;exact nN (aZ7 ss k r (h.mem r hr)).2 (by omega)
 ·have e:(qS ss k rs).take i=qS ss k (rs.take i):=by rw [kN,kN,List.map_take]
  rw [e];have:=bH3 rs i;exact nN (hZ ss k (h.take i)).2 (by omega)
theorem uV (f:Fr):gC f f=f:=by unfold gC;split <;> rfl
theorem zX (a b:Fr):grL [a,b]=gC a b:=by
 show gC (gC a a) b=_;rw [uV]
theorem aW2 {ss:List Str}{k:Nat}{r:Rw}(h:kZ ss r=true):lH ss k r=free:=by
 unfold kZ at h
 cases r with
 | thr p w x d =>
  have:x∉ss:=fun z=>by simp [Rw.sets,z] at h
  simp only [lH,if_neg this]
 | lt _ _ _=>simp only [lH]
 | tell _ _=>simp [Rw.sets] at h
 | when _ _ _ _ _ _=>simp [Rw.sets] at h
 | times _ _ _ _=>simp [Rw.sets] at h
theorem aV3 {ss:List Str}{k:Nat}{r:Rw}(h:kZ ss r=false) (hk:(Pt.row r).kids=[]):lH ss k r=qU k r:=by
 unfold kZ at h
 cases r with
 | thr p w x d =>
  have:x∈ss:=by simpa [Rw.sets] using h
  simp only [lH,if_pos this,qU]
 | lt _ _ _=>simp only [lH,qU]
 | tell _ _=>simp only [lH,qU]
 | when _ _ _ _ _ _=>simp [Pt.kids] at hk
 | times _ _ _ _=>simp [Pt.kids] at hk
theorem vW {r:Rw}(h:(Pt.row r).kids≠[]):(Pt.row r).made=true:=by
 cases r with
 | thr _ _ _ _=>exact absurd rfl h
 | lt _ _ _=>exact absurd rfl h
 | tell _ _=>exact absurd rfl h
 | when _ _ _ _ _ _=>rfl
 | times _ _ _ _=>rfl
def kyP (pl:Plc):List Key:=pl.map Sum.inl
theorem aW0 (pl:Plc):(kyP pl).map kV=pl.map V.int:=by
 unfold kyP;rw [List.map_map];rfl
theorem bS0 {a b:Plc}(h:kyP a=kyP b):a=b:=by
 unfold kyP at h;exact (List.map_inj_right (fun x y e=>by injection e)).mp h
def nI (K:W.Frag) (H:Hp) (kvs:List (List Key×V)) (ss:List Str) (k:Nat) (L:List PP):Prop:=∀ e∈L,∃ v,cM kvs (kyP e.1)=some v/\dE K H v (e.2.pr ss k)
def lM (d:Addr) (H H':Hp):Prop:=∀ a o,a≠d->H a=some o->H' a=some o
theorem lM.refl (d:Addr) (H:Hp):lM d H H:=fun _ _ _ h=>h
theorem lM.trans {d:Addr}{H H1 H2:Hp}(a:lM d H H1) (b:lM d H1 H2):lM d H H2:=fun c o n h=>b c o n (a c o n h)
theorem lM.of {d:Addr}{H H':Hp}(s:aZ H H'):lM d H H':=fun c o _ h=>s c o h
theorem lM.upd {d:Addr}{H:Hp}{o:HO}:lM d H (aW H d o):=fun c u n h=>by rw [aQ n];exact h
theorem lM.same {d:Addr}{H H1 H2:Hp}(s:aZ H H1) (o:lM d H1 H2) (h:H d=none):aZ H H2:=fun c u e=>o c u (aR e h) (s c u e)
theorem lM.ts {d:Addr}{H H':Hp}{kvs:List (List Key×V)}(o:lM d H H') (h:H d=some (.dT kvs)):TS H H':=fun a xs e=>o a _ (fun z=>by rw [z,h] at e;cases e) e
theorem aX.off {K:W.Frag}{d:Addr}{H H':Hp}{kvs:List (List Key×V)}(o:lM d H H') (h:H d=some (.dT kvs)) {a:Addr}{xs:List V}:aX K H a xs->aX K H' a xs
 | .inl (.inl e)=> .inl (.inl (o _ _ (fun z=>by rw [z,h] at e;cases e) e))
 | .inl (.inr ⟨u,e⟩)=> .inl (.inr ⟨u,o _ _ (fun z=>by rw [z,h] at e;cases e) e⟩)
 | .inr e=> .inr e
theorem dE.off {K:W.Frag}{d:Addr}{H H':Hp}{kvs:List (List Key×V)}(o:lM d H H') (h:H d=some (.dT kvs)) {v:V}{P:Prc}:dE K H v P->dE K H' v P
 | ⟨a,x,y,e,h0,h1,h2⟩=>⟨a,x,y,e,aX.off o h h0,aX.off o h h1,aX.off o h h2⟩
theorem bE1 {α: Type}{l:List α}{i:Nat}{x:α}(h:l.Nodup) (hi:l[i]?=some x):x∉l.take i:=fun z=>by
 have il:=(List.getElem?_eq_some_iff.mp hi).1;have e:=List.take_append_drop i l;rw [<- e] at h;refine (List.nodup_append.mp h).2.2 x z x ?_ rfl;rw [List.drop_eq_getElem_cons il,(List.getElem?_eq_some_iff.mp hi).2];exact List.mem_cons_self
theorem nI.put {K:W.Frag}{H H':Hp}{kvs:List (List Key×V)}{ss:List Str}{k i:Nat}{L:List PP}{e:PP}{v:V}{d:Addr}
  (h:nI K H kvs ss k (L.take i)) (nd:(gA L).Nodup) (he:L[i]?=some e) (o:lM d H H') (hd:H d=some (.dT kvs)) (hv:dE K H' v (e.2.pr ss k)):nI K H' (dB kvs (kyP e.1) v) ss k (L.take (i+1)):=fun c hc=>by
 rw [bF he] at hc;rcases List.mem_append.mp hc with z | z
 ·obtain ⟨w,h1,h2⟩:=h c z;refine ⟨w,?_,h2.off o hd⟩;rw [aT,if_neg fun q=>?_]
  ·exact h1
  ·have q:=bS0 q;have n:=bE1 (i:=i) nd (show (gA L)[i]?=some e.1 by unfold gA;rw [List.getElem?_map,he];rfl);refine n ?_;rw [<- q];unfold gA;rw [<- List.map_take];exact List.mem_map.mpr ⟨c,z,rfl⟩
 ·rw [List.mem_singleton.mp z];exact ⟨v,by rw [aT,if_pos rfl],hv⟩
theorem bP0 {L:List PP}(h:mK L) {i:Nat}{e:PP}(he:L[i]?=some e):∀ c∈eV e,c∈L.take i:=fun c hc=>by
 have il:=(List.getElem?_eq_some_iff.mp he).1;have e1:=List.take_append_drop i L;rw [List.drop_eq_getElem_cons il,(List.getElem?_eq_some_iff.mp he).2] at e1;exact h _ _ _ e1.symm c hc
theorem aB8 (r:Rw):1<=r.cnt:=by cases r <;> simp only [Rw.cnt] <;> omega
theorem kD:∀ rs:List Rw,rs.length<=cU rs
 | []=>Nat.zero_le _
 | r :: rs=>by have:=aB8 r;have:=kD rs;simp only [cU,List.length_cons];omega
mutual
theorem klR (pl:Plc):∀ r:Rw,∀ e∈dM pl r,e.2.kids.length<=r.cnt+2
 | .when p pa pb t a b,e,he=>by
  have la:=kD a;have lb:=kD b;simp only [dM,List.mem_append,List.mem_cons,List.not_mem_nil,or_false] at he;simp only [Rw.cnt];rcases he with ((he | rfl) | he | rfl) | rfl
  ·have:=aT3 (pl++[0]) 0 a e he;omega
  ·show (a.map Pt.row).length<=_;rw [List.length_map];omega
  ·have:=aT3 (pl++[1]) 0 b e he;omega
  ·show (b.map Pt.row).length<=_;rw [List.length_map];omega
  ·show 2<=_;omega
 | .times p pb n b,e,he=>by
  have lb:=kD b;simp only [dM,List.mem_append,List.mem_cons,List.not_mem_nil,or_false] at he;simp only [Rw.cnt];rcases he with (he | rfl) | rfl
  ·have:=aT3 (pl++[0]) 0 b e he;omega
  ·show (b.map Pt.row).length<=_;rw [List.length_map];omega
  ·show 1<=_;omega
 | .thr _ _ _ _,e,he=>by simp only [dM,List.mem_cons,List.not_mem_nil,or_false] at he;rw [he];exact Nat.zero_le _
 | .lt _ _ _,e,he=>by simp only [dM,List.mem_cons,List.not_mem_nil,or_false] at he;rw [he];exact Nat.zero_le _
 | .tell _ _,e,he=>by simp only [dM,List.mem_cons,List.not_mem_nil,or_false] at he;rw [he];exact Nat.zero_le _
theorem aT3 (pl:Plc) (i:Nat):∀ rs:List Rw,∀ e∈dI pl i rs,e.2.kids.length<=cU rs+2
 | [],e,he=>by simp only [dI] at he;exact absurd he List.not_mem_nil
 | r :: rs,e,he=>by
  simp only [dI,List.mem_append] at he;simp only [cU];rcases he with he | he
  ·have:=klR (pl++[(i:Int)]) r e he;omega
  ·have:=aT3 pl (i+1) rs e he;omega
end
theorem aS5 {pl:Plc}{p:Addr}{rs:List Rw}:∀ e∈eI (pl,.rows p rs),e.2.kids.length<=cU rs+2:=fun e he=>by
 rcases List.mem_append.mp he with z | z
 ·exact aT3 pl 0 rs e z
 ·rw [List.mem_singleton.mp z];show (rs.map Pt.row).length<=_;rw [List.length_map];have:=kD rs;omega
theorem aD7 {pl:Plc}{p:Addr}{rs:List Rw}:(eI (pl,.rows p rs)).length<=3 * cU rs+1:=by
 have:=jF pl 0 rs;show (dI pl 0 rs++[(pl,Pt.rows p rs)]).length<=_;rw [List.length_append,List.length_singleton];omega
theorem oE {α: Type}{xs:List α}{v:α}:jA (xs++[v]) (-1)=some v:=by
 unfold jA ixN;rw [if_neg (by decide),List.length_append,List.length_singleton,if_pos (by omega)];show (xs++[v])[(-1+((xs.length+1:Nat):Int)).toNat]?=some v;rw [show (-1+((xs.length+1:Nat):Int)).toNat=xs.length by omega];simp
theorem aX6 {α: Type}{R:V->α->Prop}:∀ {vs:List V}{as:List α},vs.length=as.length->(∀ (i:Nat) v a,vs[i]?=some v->as[i]?=some a->R v a)->dP R vs as
 | [],[],_,_=>trivial
 | v :: vs,a :: as,l,h=>⟨h 0 v a rfl rfl,aX6 (by simpa using l) fun i x y hx hy=>h (i+1) x y (by simpa using hx) (by simpa using hy)⟩
 | [],_ :: _,l,_=>by simp at l
 | _ :: _,[],l,_=>by simp at l
theorem bB7 {K:W.Frag}{H:Hp}{us:List V}{P:Prc}(h:dP (dE K H) us [P]):∃ a,us=[.ref a]/\∃ x y,aX K H a [.ref x,.ref y]/\bU K H x P.1/\bU K H y P.2:=by
 have l:=h.length
 cases us with
 | nil=>cases l
 | cons u r =>
  cases r with
  | nil =>
   obtain ⟨⟨a,x,y,e,h1,h2,h3⟩,_⟩:=h;exact ⟨a,by rw [e],x,y,h1,h2,h3⟩
  | cons _ _=>simp at l
theorem kO {K:W.Frag}{σ: St}{H:Hp}{Q:VK}(k:∀ H' v,aZ H H'->dE K H' v free->Q v H') :
  bB2 (iL (bB2 (iL (tC (V.int 1)) (iL (tC (V.int 1)) tNil))) (iL (bB2 (iL (tC (V.int 0)) (iL (tC (V.int 1)) tNil))) tNil)) σ H Q:=by
 refine ⟨bM,fun a ha=>⟨bM,fun b hb=>⟨bM,fun c hc=>?_⟩⟩⟩;exact k _ (.ref c) ((aB ha _).trans ((aB hb _).trans (aB hc _))) ⟨c,a,b,rfl,aX.of aE,bU.of (((aB hb _).trans (aB hc _)) _ _ aE),bU.of ((aB hc _) _ _ aE)⟩
theorem mG {i:Int}(h:cE 1000 i):i.natAbs.log2 < 1920:=by
 by_cases z:i.natAbs=0
 ·rw [z];decide
 ·exact (Nat.log2_lt z).mpr (Nat.lt_of_lt_of_le h (Nat.pow_le_pow_right (by decide) (by decide)))
theorem xI {a b:Int}(ha:a.natAbs.log2 < 1920) (hb:b.natAbs.log2 < 1920):(jU a b).shown.length<=3900:=by
 have e1:=PyProof.Rows.int_text_len_1921 ha;have e2:=PyProof.Rows.int_text_len_1921 hb;show (tupleText [Str.ofString (toString a),Str.ofString (toString b)]).length<=3900;have e3:=join_length_add [Str.ofString (toString a),Str.ofString (toString b)] (by simp);rw [piled_cons,piled_cons,piled_nil] at e3;unfold tupleText;rw [strLen_append,strLen_append];have e4:((("(": String):Str)).length=1:=rfl;have e5:(((if [Str.ofString (toString a),Str.ofString (toString b)].length == 1 then ",)" else ")": String):Str)).length=1:=rfl;rw [e4,e5];omega
def uU (P:Prc):PyData:= .tuple [jU P.1.1 P.1.2,jU P.2.1 P.2.2]
theorem aX1 {P:Prc}(h:fI 1000 P.1) (k:fI 1000 P.2):(uU P).showable=true/\(uU P).hasDict=false/\(uU P).depth<=64/\(uU P).shown.length<=sizeLine:=by
 have a1:=mG h.ba;have a2:=mG h.bb;have a3:=mG k.ba;have a4:=mG k.bb;refine ⟨?_,rfl,by simp [uU,jU,PyData.depth,PyData.depthAll],?_⟩
 ·simp [uU,jU,PyData.showable,PyData.showableAll,a1,a2,a3,a4]
 ·have e1:=xI a1 a2;have e2:=xI a3 a4;show (tupleText [(jU P.1.1 P.1.2).shown,(jU P.2.1 P.2.2).shown]).length<=sizeLine;have e3:=join_length_add [(jU P.1.1 P.1.2).shown,(jU P.2.1 P.2.2).shown] (by simp);rw [piled_cons,piled_cons,piled_nil] at e3;unfold tupleText;rw [strLen_append,strLen_append];have e4:((("(": String):Str)).length=1:=rfl;have e5:(((if [(jU P.1.1 P.1.2).shown,(jU P.2.1 P.2.2).shown].length == 1 then ",)" else ")": String):Str)).length=1:=rfl;rw [e4,e5,sizeLine_eq];omega
theorem aA9 {K:W.Frag}{H:Hp}{a x y:Addr}{P:Prc}(ha:aX K H a [.ref x,.ref y]) (hx:bU K H x P.1) (hy:bU K H y P.2):xV K H (uU P) (.ref a) :=
 ⟨a,_,rfl,ha,_,_,rfl,⟨x,_,rfl,hx,_,_,rfl,rfl,_,_,rfl,rfl,rfl⟩,_,_,rfl,⟨y,_,rfl,hy,_,_,rfl,rfl,_,_,rfl,rfl,rfl⟩,rfl⟩
theorem aT6 {H:Hp}{d:TD}{x:Str}(h:aI5 H d):∃ c2 c3,jA (.str d.T.wd :: .str x :: d.vs) 2=some c2/\jA (.str d.T.wd :: .str x :: d.vs) (-3)=some c3 /\
  ((¬ d.T.wd="choose"/\¬ d.T.wd="first"/\∃ w ws,c2= .ref w/\H w=some (.tup (ws.map V.int))/\d.wss=[ws])\/(∃ sm us,H sm=some (.tup us)/\dP (nO H) us d.wss/\((d.T.wd="choose"/\c2= .ref sm)\/(d.T.wd="first"/\c3= .ref sm)))):=by
 obtain ⟨vs,T,wss,kd⟩:=d
 cases T with
 | lad p q lo hi =>
  obtain ⟨w,ws,st,e,e2,h1,_⟩:=h;refine ⟨.ref w,.ref st,by rw [show vs=_ from e];rfl,by rw [show vs=_ from e];rfl,.inl ⟨by show ¬ ("ladder": Str)="choose";decide +kernel,by show ¬ ("ladder": Str)="first";decide +kernel,w,ws,rfl,h1,e2⟩⟩
 | fla r lo hi =>
  obtain ⟨w,ws,e,e2,h1⟩:=h;refine ⟨.ref w,.int r,by rw [show vs=_ from e];rfl,by rw [show vs=_ from e];rfl,.inl ⟨by show ¬ ("flat": Str)="choose";decide +kernel,by show ¬ ("flat": Str)="first";decide +kernel,w,ws,rfl,h1,e2⟩⟩
 | cho p q lo hi =>
  obtain ⟨sm,us,st,e,h1,h2,_⟩:=h;exact ⟨.ref sm,.ref st,by rw [show vs=_ from e];rfl,by rw [show vs=_ from e];rfl,.inr ⟨sm,us,h1,h2,.inl ⟨rfl,rfl⟩⟩⟩
 | fst pa qa pb qb mk lo hi =>
  obtain ⟨sm,us,sa,sb,e,h1,h2,_⟩:=h;exact ⟨.int mk,.ref sm,by rw [show vs=_ from e];rfl,by rw [show vs=_ from e];rfl,.inr ⟨sm,us,h1,h2,.inr ⟨rfl,rfl⟩⟩⟩
theorem aR0 (c2 c3:V) (w:Str):cM (eJ [] [((Sum.inr "choose": Key),c2),((Sum.inr "first": Key),c3)]) (Sum.inr w:Key)=if w="first" then some c3 else if w="choose" then some c2 else none:=by
 unfold eJ;simp only [List.foldl_cons,List.foldl_nil];rw [aT,aT,qJ]
 by_cases a:w="first"
 ·rw [if_pos (by rw [a]),if_pos a]
 ·rw [if_neg (fun z=>a (by injection z)),if_neg a]
  by_cases b:w="choose"
  ·rw [if_pos (by rw [b]),if_pos b]
  ·rw [if_neg (fun z=>b (by injection z)),if_neg b]
theorem nCF:¬ (("choose": Str)="first"):=by decide +kernel
theorem SqB.rep {p:Prc}{m n:Nat}(h:PB m p) (r:fQ p) (l:n * m<=6) (n1:1<=n):SqB (List.replicate n p):=by
 have b0:m<=6:=Nat.le_trans (by have:=Nat.mul_le_mul_right m n1;omega) l;refine ⟨fun q hq=>by rw [List.eq_of_mem_replicate hq];exact nN h b0,fun i=>?_⟩;rw [List.take_replicate];have:=(zH h r (min i n)).1;exact nN this (Nat.le_trans (Nat.mul_le_mul_right m (Nat.min_le_right i n)) l)
theorem aD2 {α: Type}{R:V->α->Prop}{us:List V}{as:List α}(h:dP R us as):∀ n:Nat,dP R (List.replicate n us).flatten (List.replicate n as).flatten
 | 0=>trivial
 | n+1=>by
  rw [List.replicate_succ,List.replicate_succ,List.flatten_cons,List.flatten_cons];exact dP.append h (aD2 h n)
theorem aE5 {α: Type}(a:α):∀ n:Nat,(List.replicate n [a]).flatten=List.replicate n a
 | 0=>rfl
 | n+1=>by rw [List.replicate_succ,List.flatten_cons,aE5 a n,List.replicate_succ];rfl
def Pt.sz:Pt->Nat
 | .rows _ rs=>3 * cU rs+1
 | .row r=>3 * r.cnt
def Pt.all (kd:Int):Pt->Prop
 | .rows _ rs=>iE kd rs
 | .row r=>∀ q∈r.flat,KdR kd q
def pZ:List Pt->Nat
 | []=>0
 | c :: cs=>c.sz+pZ cs
theorem nU:∀ a b:List Pt,pZ (a++b)=pZ a+pZ b
 | [],b=>by simp [pZ]
 | c :: cs,b=>by simp only [List.cons_append,pZ,nU cs b];omega
theorem aP8 (cs:List Pt) (i:Nat):pZ (cs.take i)<=pZ cs:=by
 have:=nU (cs.take i) (cs.drop i);rw [List.take_append_drop] at this;omega
theorem wU:∀ rs:List Rw,pZ (rs.map Pt.row)=3 * cU rs
 | []=>by simp [pZ,cU]
 | r :: rs=>by simp only [List.map_cons,pZ,wU rs,Pt.sz,cU];omega
theorem bC5:∀ e:Pt,pZ e.kids+1<=e.sz
 | .rows _ rs=>by simp only [Pt.kids,Pt.sz,wU];omega
 | .row (.when _ pa pb _ a b)=>by simp only [Pt.kids,Pt.sz,pZ,Rw.cnt];omega
 | .row (.times _ pb _ b)=>by simp only [Pt.kids,Pt.sz,pZ,Rw.cnt];omega
 | .row (.thr _ _ _ _)=>by simp only [Pt.kids,Pt.sz,pZ,Rw.cnt];omega
 | .row (.lt _ _ _)=>by simp only [Pt.kids,Pt.sz,pZ,Rw.cnt];omega
 | .row (.tell _ _)=>by simp only [Pt.kids,Pt.sz,pZ,Rw.cnt];omega
theorem rA:∀ {rs:List Rw}{r q:Rw},r∈rs->q∈r.flat->q∈bK rs
 | s :: rs,r,q,h,hq=>by
  simp only [bK];rcases List.mem_cons.mp h with rfl | h
  ·exact List.mem_append_left _ hq
  ·exact List.mem_append_right _ (rA h hq)
theorem xB:∀ {rs:List Rw}{r:Rw},r∈rs->qR r<=fF rs
 | s :: rs,r,h=>by
  simp only [fF];rcases List.mem_cons.mp h with rfl | h
  ·omega
  ·have:=xB h;omega
theorem bL6 {kd:Int}:∀ {e:Pt},e.all kd->e.ld<=6->∀ c∈e.kids,c.dp < e.dp/\c.ld<=6/\c.all kd
 | .rows p rs,ha,hl,c,hc=>by
  obtain ⟨r,hr,rfl⟩:=List.mem_map.mp hc;have:=xB hr;have:=xS hr;simp only [Pt.ld] at hl;simp only [Pt.dp,Pt.ld,Pt.all] at *;exact ⟨by omega,by omega,fun q hq=>ha q (rA hr hq)⟩
 | .row (.when p pa pb t a b),ha,hl,c,hc=>by
  simp only [Pt.kids,List.mem_cons,List.not_mem_nil,or_false] at hc;simp only [Pt.ld,mW] at hl;simp only [Pt.all,Rw.flat] at ha;rcases hc with rfl | rfl
  ·simp only [Pt.dp,Pt.ld,Pt.all,qR];exact ⟨by omega,by omega,fun q hq=>ha q (List.mem_cons_of_mem _ (List.mem_append_left _ hq))⟩
  ·simp only [Pt.dp,Pt.ld,Pt.all,qR];exact ⟨by omega,by omega,fun q hq=>ha q (List.mem_cons_of_mem _ (List.mem_append_right _ hq))⟩
 | .row (.times p pb n b),ha,hl,c,hc=>by
  simp only [Pt.kids,List.mem_cons,List.not_mem_nil,or_false] at hc;simp only [Pt.ld,mW] at hl;simp only [Pt.all,Rw.flat] at ha;have hn:1<=n/\n<=3:=ha _ List.mem_cons_self;have le:iZ b<=n.toNat * iZ b:=by
   have:=Nat.mul_le_mul_right (iZ b) (show 1<=n.toNat by omega);omega
  subst hc;simp only [Pt.dp,Pt.ld,Pt.all,qR];exact ⟨by omega,by omega,fun q hq=>ha q (List.mem_cons_of_mem _ hq)⟩
 | .row (.thr _ _ _ _),_,_,c,hc=>absurd hc List.not_mem_nil
 | .row (.lt _ _ _),_,_,c,hc=>absurd hc List.not_mem_nil
 | .row (.tell _ _),_,_,c,hc=>absurd hc List.not_mem_nil
theorem bI2 {kd:Int}{e:Pt}(h:e.all kd):∀ q,e= .row q->KdR kd q:=fun q e2=>by
 subst e2;refine h q ?_
 cases q <;> simp [Rw.flat]
def bV1 (K:W.Frag) (n:Nat):Sp:=fun vs H Q _=>∃ (e:Pt) (q np:Addr) (ss:List Str) (k:Nat) (kd:Int) (pl:Plc),vs=[.ref e.p,.ref q,.ref np,.int k]/\sW H e/\e.dp < n/\e.dp+pl.length<=20/\e.ld<=6/\e.all kd/\(k:Int) < kd/\e.sz<=4000/\H q=some (.tup (pl.map V.int))/\H np=some (.lst (ss.map V.str)) /\
 ∀ H' l us z,aZ H H'->H' l=some (.lst (us++[.ref z]))->us.length+1<=e.sz->(∃ a b f g,H' z=some (.tup [a,b,.ref f,.ref g])/\bU K H' f (e.pr ss k).1/\bU K H' g (e.pr ss k).2)->Q (.ref l) H'
def aE1 (K:W.Frag):Nat->Sp
 | 0=>fun _ _ _ _=>False
 | n+1=>bV1 K (n+1)
def xO (p:Prc):Prop:=p.1.2<=p.1.1
theorem aV2 {a b:Int}(h:b<=a) (hb:1<=b):(dH a b).2<=(dH a b).1:=by
 show dU a b<=eS a b;unfold eS dU;exact Int.ediv_le_ediv (qB hb) h
theorem yY {a b c d:Int}(h:b<=a) (k:d<=c) (hb:1<=b) (hd:1<=d):b * d<=a * c:=Int.mul_le_mul h k (by omega) (by omega)
theorem uJ {a b:Int}(h:b<=a) (hb:1<=b):∀ n:Nat,b ^ n<=a ^ n
 | 0=>by rw [Int.pow_zero,Int.pow_zero];exact Int.le_refl _
 | n+1=>by rw [Int.pow_succ,Int.pow_succ];exact yY (uJ h hb n) h (pw1 hb n) hb
theorem iM:xO free:=by unfold xO free;decide
theorem bH4 {a p:Prc}(h:xO a) (k:xO p) (ha:1<=a.1.2) (hp:1<=p.1.2):xO (jO a p):=by
 show (fJ a.1 p.1).2<=(fJ a.1 p.1).1;have b1:1<=a.1.2 * p.1.2:=by have:=Int.mul_pos (show 0 < a.1.2 by omega) (show 0 < p.1.2 by omega);omega
 exact aV2 (yY h k ha hp) b1
theorem bW5 {T:xP}(h:T.Ok) {w:Int}(w0:0<=w):xO (kR T w):=by
 unfold kR
 split
 ·exact iM
 have lc:∀ {p q:Int},tJ p q->p ^ w.toNat<=q ^ w.toNat:=fun {p q} c=>uJ (by have:=c.st.pq;omega) c.st.p1 _
 cases T with
 | lad p q lo hi=>exact lc h
 | cho p q lo hi=>exact lc h
 | fla r lo hi=>exact (show (1:Int)<=1 by decide)
 | fst pa qa pb qb mk lo hi =>
  obtain ⟨ca,cb,_⟩:=h;have p1:=ca.st.p1;have p1':=cb.st.p1;have q1:=pw1 p1 w.toNat;have q2:=pw1 p1' (2 * w).toNat;have m2:1<=pa ^ w.toNat * pb ^ (2 * w).toNat:=by
   have:=Int.mul_pos (show 0 < pa ^ w.toNat by omega) (show 0 < pb ^ (2 * w).toNat by omega);omega
  exact aV2 (yY (lc ca) (uJ (by have:=cb.st.pq;omega) p1' _) q1 q2) m2
theorem lN:∀ {ps:List Prc}{a:Prc},xO a->fQ a->(∀ p∈ps,xO p/\fQ p)->xO (ps.foldl jO a)
 | [],_,h,_,_=>h
 | p :: ps,a,h,r,k=>by
  rw [List.foldl_cons];have kp:=k p List.mem_cons_self;exact lN (bH4 h kp.1 r.f.b kp.2.f.b) (lR r kp.2) fun q hq=>k q (List.mem_cons_of_mem _ hq)
theorem bE8 {a b:Prc}(h:xO a) (k:xO b):xO (pW a b):=by
 rcases iU a.1 b.1 with e | e
 ·show (gC a.1 b.1).2<=(gC a.1 b.1).1;rw [e];exact h
 ·show (gC a.1 b.1).2<=(gC a.1 b.1).1;rw [e];exact k
mutual
theorem cH7 {H:Hp}(ss:List Str) (k:Nat):∀ r:Rw,eT H r->xO (lH ss k r)
 | .thr p w x d,h=>by
  simp only [lH]
  split
  ·exact bW5 h.2.ok (xM h.2.ws k).1
  ·exact iM
 | .lt _ _ _,_=>by simp only [lH];exact iM
 | .tell _ _,_=>by simp only [lH];exact iM
 | .when _ _ _ _ a b,h=>by
  simp only [lH];exact bE8 (lN iM eG fun p hp=>⟨vD ss k a h.2.2.2.2.1 p hp,(iC ss k a h.2.2.2.2.1).1 p hp⟩) (lN iM eG fun p hp=>⟨vD ss k b h.2.2.2.2.2 p hp,(iC ss k b h.2.2.2.2.2).1 p hp⟩)
 | .times _ _ n b,h=>by
  simp only [lH];have g:=lN (ps:=qS ss k b) iM eG fun p hp=>⟨vD ss k b h.2.2 p hp,(iC ss k b h.2.2).1 p hp⟩
  exact uJ g (lV (iC ss k b h.2.2).1).f.b _
theorem vD {H:Hp}(ss:List Str) (k:Nat):∀ rs:List Rw,bL H rs->∀ p∈qS ss k rs,xO p
 | [],_,p,hp=>by simp only [qS] at hp;exact absurd hp List.not_mem_nil
 | r :: rs,⟨h,hs⟩,p,hp=>by
  simp only [qS] at hp;rcases List.mem_cons.mp hp with rfl | hp
  ·exact cH7 ss k r h
  ·exact vD ss k rs hs p hp
end
theorem cF9 {H:Hp}(ss:List Str) (k:Nat) {rs:List Rw}(h:bL H rs):xO (gD ss k rs):=lN iM eG fun p hp=>⟨vD ss k rs h p hp,(iC ss k rs h).1 p hp⟩
theorem bL7 {f:Fr}(h:qQ f) (g:f.2<=f.1):gC (1,1) f=f:=by
 unfold gC
 split
 ·rfl
 ·rename_i c
  have e:f.1=f.2:=by
   have c:¬ 1 * f.2 < f.1 * 1:=c;omega
  have l:=h.l;rw [e] at l;rw [<- l];have b:=h.b;unfold dH eS dU gI;rw [Nat.gcd_self];have:(((f.2).toNat:Nat):Int)=f.2:=by omega
  rw [this,Int.ediv_self (by omega)]
theorem bB1 {f:Fr}(h:qQ f):gC (0,1) f=f:=by
 unfold gC
 split
 ·rfl
 ·rename_i c
  have e:f.1=0:=by
   have c:¬ 0 * f.2 < f.1 * 1:=c;have:=h.a;rw [Int.zero_mul,Int.mul_one] at c;omega
  have l:=h.l;rw [e] at l;rw [<- l];have b:=h.b;unfold dH eS dU gI;have:(((Int.toNat 0).gcd f.2.toNat:Nat):Int)=f.2:=by
   rw [Int.toNat_zero,Nat.gcd_zero_left];omega
  rw [this,Int.ediv_self (by omega),Int.zero_ediv]
theorem bG7 {fs:List Fr}(h:∀ f∈fs,qQ f/\f.2<=f.1) (n:fs≠[]):fs.foldl gC (1,1)=grL fs:=by
 cases fs with
 | nil=>exact absurd rfl n
 | cons f fs =>
  show (f :: fs).foldl gC (1,1)=(f :: fs).foldl gC f;rw [List.foldl_cons,List.foldl_cons,bL7 (h f List.mem_cons_self).1 (h f List.mem_cons_self).2,uV]
theorem aR8 {fs:List Fr}(h:∀ f∈fs,qQ f) (n:fs≠[]):fs.foldl gC (0,1)=grL fs:=by
 cases fs with
 | nil=>exact absurd rfl n
 | cons f fs =>
  show (f :: fs).foldl gC (0,1)=(f :: fs).foldl gC f;rw [List.foldl_cons,List.foldl_cons,bB1 (h f List.mem_cons_self),uV]
def oV (ss:List Str) (rs:List Rw) (n:Nat):Prc:=(((iJ ss rs n).map (·.1)).foldl gC (1,1),((iJ ss rs n).map (·.2)).foldl gC (0,1))
theorem aU7 (ss:List Str) (rs:List Rw) (n:Nat):oV ss rs (n+1)=(gC (oV ss rs n).1 (gD ss n rs).1,gC (oV ss rs n).2 (gD ss n rs).2):=by
 unfold oV iJ;rw [List.range_succ,List.map_append,List.map_append,List.map_append,List.foldl_append,List.foldl_append];rfl
theorem bK0 {H:Hp}{ss:List Str}{rs:List Rw}(h:bL H rs) (l:iZ rs<=6) (n:Nat):fI 1000 (oV ss rs n).1/\fI 1000 (oV ss rs n).2:=by
 have b:∀ p∈iJ ss rs n,fI 1000 p.1/\fI 1000 p.2:=fun p hp=>by
  unfold iJ at hp;obtain ⟨j,_,rfl⟩:=List.mem_map.mp hp;exact nN (hZ ss j h).2 l
 have o:=fb1 (n:=1000) (by decide);refine ⟨bF0 o.1 fun g hg=>?_,bF0 o.2 fun g hg=>?_⟩
 ·obtain ⟨p,hp,rfl⟩:=List.mem_map.mp hg;exact (b p hp).1
 ·obtain ⟨p,hp,rfl⟩:=List.mem_map.mp hg;exact (b p hp).2
theorem bQ0 {H:Hp}{ss:List Str}{rs:List Rw}(h:bL H rs) {n:Nat}(n1:1<=n):oV ss rs n=(grL ((iJ ss rs n).map (·.1)),grL ((iJ ss rs n).map (·.2))):=by
 have ll:(iJ ss rs n).length=n:=by unfold iJ;rw [List.length_map,List.length_range]
 have ne:iJ ss rs n≠[]:=fun z=>by rw [z] at ll;simp at ll;omega
 have b:∀ p∈iJ ss rs n,fQ p/\xO p:=fun p hp=>by
  unfold iJ at hp;obtain ⟨j,_,rfl⟩:=List.mem_map.mp hp;exact ⟨(hZ ss j h).1,cF9 ss j h⟩
 unfold oV;rw [bG7 (fun f hf=>?_) (by simpa using ne),aR8 (fun f hf=>?_) (by simpa using ne)]
 ·obtain ⟨p,hp,rfl⟩:=List.mem_map.mp hf;exact (b p hp).1.r
 ·obtain ⟨p,hp,rfl⟩:=List.mem_map.mp hf;exact ⟨(b p hp).1.f,(b p hp).2⟩
theorem cD8 {H:Hp}{k:Nat}{r:Rw}(h:eT H r):fI 1000 (qU k r).1/\fI 1000 (qU k r).2:=by
 have o:=fb1 (n:=1000) (by decide)
 cases r with
 | thr p w x d =>
  have wk:=xM h.2.ws k;have t:=zC h.2.ok wk.1 wk.2;exact ⟨t.2.1.mono (by decide),t.2.2.mono (by decide)⟩
 | lt _ _ _=>exact o
 | tell _ _=>exact o
 | when _ _ _ _ _ _=>exact o
 | times _ _ _ _=>exact o
theorem bV7 {a b:V}{c:Bool}(h:c=true):jA [a,b] (if c=true then 1 else 0)=some b:=by rw [if_pos h];rfl
theorem cD2 {a b:V}{c:Bool}(h:¬ c=true):jA [a,b] (if c=true then 1 else 0)=some a:=by rw [if_neg h];rfl
theorem aS1 {ss:List Str}{r:Rw}(ci:kZ ss r=true):(Pt.row r).rule ss="idle":=by
 cases r with
 | thr p w x d=>have:x∉ss:=(fun z=>by simp [kZ,Rw.sets,z] at ci);simp only [Pt.rule,if_neg this]
 | lt p x tt=>have:x∉ss:=(fun z=>by simp [kZ,Rw.sets,z] at ci);simp only [Pt.rule,if_neg this]
 | tell p tt=>simp [kZ,Rw.sets] at ci
 | when p pa pb tt a b=>simp [kZ,Rw.sets] at ci
 | times p pb n b=>simp [kZ,Rw.sets] at ci
theorem aQ4 {ss:List Str}{r:Rw}(ci:kZ ss r=false) (hk:(Pt.row r).kids=[]):(Pt.row r).rule ss="throw"\/(Pt.row r).rule ss="plain":=by
 cases r with
 | thr p w x d=>left;simp only [Pt.rule,if_pos (show x∈ss by simpa [kZ,Rw.sets] using ci)]
 | lt p x tt=>right;simp only [Pt.rule,if_pos (show x∈ss by simpa [kZ,Rw.sets] using ci)]
 | tell p tt=>right;rfl
 | when p pa pb tt a b=>simp [Pt.kids] at hk
 | times p pb n b=>simp [Pt.kids] at hk
theorem bE0 {H:Hp}{r:Rw}(h:eT H r) (hk:(Pt.row r).kids=[]):¬ r.w∈(["when","times"]:List Str):=by
 cases r with
 | thr p w x d =>
  have n:=pC h.2;intro z;simp only [List.mem_cons,List.not_mem_nil,or_false] at z;rcases z with z | z
  ·exact n.1 (congrArg V.str z)
  ·exact n.2 (congrArg V.str z)
 | lt p x tt=>show ¬ ("let": Str)∈_;decide +kernel
 | tell p tt=>show ¬ ("tell": Str)∈_;decide +kernel
 | when p pa pb tt a b=>simp [Pt.kids] at hk
 | times p pb n b=>simp [Pt.kids] at hk
theorem bL3 {H:Hp}{ss:List Str}{k:Nat}{kd:Int}{e:Pt}(he:sW H e) (hl:e.ld<=6) (hkd:∀ q,e= .row q->KdR kd q) (l4:e.kids.length<=4000) (hm:e.made=true) (nw:∀ p pa pb t a b,e≠ .row (.when p pa pb t a b)) :
  ∃ PS:List Prc,SqB PS/\PS.length<=4000/\fB PS=e.pr ss k/\((e.rule ss="rows"/\PS=e.kids.map (Pt.pr ss k))\/(e.rule ss="again"/\∃ (n:Int) (r:List V),1<=n/\n<=3/\e.kids.length=1/\H e.p=some (.tup (.str "times" :: .int n :: r))/\PS=(List.replicate n.toNat (e.kids.map (Pt.pr ss k))).flatten)):=by
 cases e with
 | rows p rs =>
  have ek:(Pt.rows p rs).kids.map (Pt.pr ss k)=qS ss k rs:=by
   show (rs.map Pt.row).map (Pt.pr ss k)=_;rw [List.map_map,kN];rfl
  refine ⟨qS ss k rs,aX5 he.2 hl,?_,rfl,.inl ⟨rfl,ek.symm⟩⟩;rw [<- ek,List.length_map];exact l4
 | row r =>
  cases r with
  | times p pb n b =>
   have hn:1<=n/\n<=3:=hkd _ rfl;simp only [Pt.ld,mW] at hl;have o:=hZ ss k he.2.2;have ek:(Pt.row (.times p pb n b)).kids.map (Pt.pr ss k)=[gD ss k b]:=by simp only [Pt.kids,List.map_cons,List.map_nil,Pt.pr]
   refine ⟨List.replicate n.toNat (gD ss k b),SqB.rep o.2 o.1 hl (by omega),by rw [List.length_replicate];omega,?_,.inr ⟨rfl,n,_,hn.1,hn.2,rfl,he.1,by rw [ek,aE5]⟩⟩;rw [tQ o.1];simp only [Pt.pr,lH,gD]
  | when p pa pb t a b=>exact absurd rfl (nw p pa pb t a b)
  | thr p w x d=>exact Bool.noConfusion (show false=true from hm)
  | lt p x t=>exact Bool.noConfusion (show false=true from hm)
  | tell p t=>exact Bool.noConfusion (show false=true from hm)
theorem aX.updL {K:W.Frag}{H:Hp}{l:Addr}{vs:List V}{o:HO}(h:H l=some (.lst vs)) {a:Addr}{xs:List V}:aX K H a xs->aX K (aW H l o) a xs
 | .inl (.inl e)=> .inl (.inl (by rw [aQ (fun z=>by rw [z,h] at e;cases e)];exact e))
 | .inl (.inr ⟨u,e⟩)=> .inl (.inr ⟨u,by rw [aQ (fun z=>by rw [z,h] at e;cases e)];exact e⟩)
 | .inr e=> .inr e
theorem dE.updL {K:W.Frag}{H:Hp}{l:Addr}{vs:List V}{o:HO}(h:H l=some (.lst vs)) {v:V}{P:Prc}:dE K H v P->dE K (aW H l o) v P
 | ⟨a,x,y,e,h0,h1,h2⟩=>⟨a,x,y,e,aX.updL h h0,aX.updL h h1,aX.updL h h2⟩
theorem uK {α: Type}{R:V->α->Prop}:∀ {vs:List V}{as:List α}{i:Nat}{a:α},dP R vs as->as[i]?=some a->∃ v,vs[i]?=some v/\R v a
 | [],[],i,a,_,h=>by cases h
 | v :: vs,a :: as,0,_,⟨e,_⟩,h=>by cases h;exact ⟨v,rfl,e⟩
 | v :: vs,a :: as,i+1,x,⟨_,r⟩,h=>by
  rw [List.getElem?_cons_succ] at h ⊢;exact uK r h
 | [],_ :: _,_,_,z,_=>z.elim
 | _ :: _,[],_,_,z,_=>z.elim
theorem bS1 (c:Pt):1<=c.sz:=by
 cases c with
 | rows p rs=>simp only [Pt.sz];omega
 | row r=>have:=aB8 r;simp only [Pt.sz];omega
theorem aF0:∀ cs:List Pt,cs.length<=pZ cs
 | []=>Nat.zero_le _
 | c :: cs=>by have:=bS1 c;have:=aF0 cs;simp only [pZ,List.length_cons];omega
def top (i:Nat):Stmt:=PySem.Challenge.pw_pairedthrows_k37_prices.main.body.getD i (.Pass ⟨0,0,0,0⟩)
abbrev aN3:Stmt:=top 2
abbrev aM8:Stmt:=top 3
abbrev aP1:Stmt:=top 4
abbrev aO5:Stmt:=top 5
abbrev aM9:Stmt:=top 6
abbrev aL8:Stmt:=top 7
abbrev aM2:Stmt:=top 8
abbrev aI8:Stmt:=top 9
abbrev aI4:Stmt:=top 10
abbrev aI0:Stmt:=top 11
abbrev aH5:Stmt:=top 12
abbrev aF5:Stmt:=top 13
abbrev aJ0:Stmt:=top 14
abbrev aG4:Stmt:=top 15
abbrev aO9:Stmt:=top 17
abbrev aP5:Stmt:=top 18
abbrev aL0:Stmt:=top 19
abbrev aK5:Stmt:=top 20
abbrev mO:Stmt:=top 21
abbrev aO3:Stmt:=top 22
abbrev aI6:Stmt:=top 23
abbrev aH4:Stmt:=top 25
abbrev aO8:Stmt:=top 27
abbrev aN9:Stmt:=top 28
abbrev aK8:Stmt:=top 29
abbrev aJ5:Stmt:=top 31
abbrev sP:Stmt:=top 32
abbrev aK3:Stmt:=top 35
abbrev aP6:Stmt:=top 36
abbrev aM1:Stmt:=top 37
abbrev aO1:Stmt:=top 38
abbrev aK4:Stmt:=top 39
abbrev aP4:Stmt:=top 40
abbrev aH6:Stmt:=top 41
abbrev aH7:Stmt:=top 42
abbrev aN7:Stmt:=top 43
abbrev aH1:Stmt:=top 44
abbrev sH:Stmt:=top 46
abbrev rZ:Stmt:=top 47
abbrev aN0:Stmt:=top 48
abbrev aG9:Stmt:=top 49
abbrev aN1:Stmt:=top 50
abbrev aO6:Stmt:=top 51
abbrev aK2:Stmt:=top 52
abbrev aL9:Stmt:=top 53
abbrev aK1:Stmt:=top 54
abbrev aJ3:Stmt:=top 55
abbrev aH9:Stmt:=top 56
abbrev aL3:Stmt:=top 57
abbrev aK7:Stmt:=top 58
abbrev aN8:Stmt:=top 59
abbrev aO0:Stmt:=top 60
abbrev aL1:Stmt:=top 61
abbrev aF6:Stmt:=top 62
abbrev aL7:Stmt:=top 63
abbrev aO7:Stmt:=top 64
abbrev aH8:Stmt:=top 65
abbrev aO4:Stmt:=top 66
abbrev aJ1:Stmt:=top 67
abbrev aI9:Stmt:=top 68
abbrev aK6:Stmt:=top 69
abbrev aO2:Stmt:=top 70
abbrev aM5:Stmt:=top 71
abbrev aG2:Stmt:=top 72
abbrev aM6:Stmt:=top 73
abbrev aG3:Stmt:=top 74
abbrev aL2:Stmt:=top 75
abbrev tR:Stmt:=top 76
section
variable {P:Program}{w:World}{K:W.Frag}{mg:Str->Option Value}{base:Heap}
theorem uE:aS ["_law_deal_here","_law_many","_law_number","_law_one","_law_other"] ["_law_deal_here","_law_many"] (aG rZ):=by refine ⟨rfl,rfl,rfl,?_,rfl,?_,?_⟩<;>decide +kernel
theorem bA2 {f:Addr}{fd:FuncData}(F:dO K "_law_draw" "_law_draw" rZ f fd) (ml:mg "len"=none):bQ P w K mg base dS 1 f fd ["_law_deal_here","_law_many"] spDraw:=by
 refine F.ok uE (fun vs H Q E h=>?_) (fun cdv A outer s H vs Q E hr h=>?_)
 ·obtain ⟨d,l,m,rfl,_⟩:=h;rfl
 obtain ⟨d,l,m,rfl,⟨sd,n,ls,D⟩,hm0,hm1,k⟩:=h;have hu:=kK hr;refine ⟨_,aF (fK PassesOwn.never (iG (aV cR (cB hu (pv 0) aJ (fun _ _=>rfl)) aD (bB _)) (gT (aV kU (bV cG (by rfl) ml PySem.boot_len (aA (cB hu (pv 0) aJ (fun _ _=>rfl)) aC)) aD (bB _)))).pt
   (aH (dW hu (pv 0) aJ (qP PySem.F.plainAttrs_list PySem.F.slot_list_pop PySem.F.type_list_pop pI (cB hu (pv 0) aJ (fun _ _=>rfl))) rfl)))
  (aF (aK (i:=2) uE.nd rfl (Or.inl rfl) (cB hu (pv 0) aJ (fun _ _=>rfl)))
  (aF (bT (aV kU (pv 2) aD (bB _))
   (aF (dW hu (pv 0) aJ (aL jZ (pv 2) (pv 1)) rfl) (aH (aM (aL fO (pv 2) (pv 1))))) bA)
  (aF (aK (i:=3) uE.nd rfl (Or.inl rfl) (aL fO (aL cC (aL gG (cB hu (pv 0) aJ (fun _ _=>rfl)) aD) aD) aD))
  (aF (dW hu (pv 0) aJ (aL fO (aL cC (aL gG (pv 3) aD) aD) aD) rfl)
  (aF (aK (i:=4) uE.nd rfl (Or.inl rfl) (aL fO (aL gG (cB hu (pv 0) aJ (fun _ _=>rfl)) (cB hu (pv 0) aJ (fun _ _=>rfl))) aD))
  (aH (aM (aL fO (aL cC (aL gG (aL fO (aL gG (pv 3) (pv 3)) aD) aD) (pv 4)) (pv 1))))))))),?_⟩
 refine ⟨fun j σ H1=>∃ n' ls',σ=[some (.ref d),some (.int m),none,none,none]/\cP H1 d l sd n' ls'/\j=ls'.length/\eM d l H H1,⟨_,n,ls,rfl,D,rfl,eM.refl H⟩,?_⟩;rintro j σ H1 ⟨n',ls',rfl,D1,rfl,o1⟩;refine ⟨_,rfl,d,_,rfl,D1.gn,rfl,_,rfl,?_⟩;refine lQ (fun c=>?a) (fun c=>cC5 ?b)
 case' a=>refine ⟨_,rfl,d,_,rfl,D1.gl,l,_,rfl,.inl (bN.of D1.lc),_,_,rfl,rfl,_,rfl,?_⟩
 case' a=>refine lQ (fun c2=>?loop) (fun c2=>?b2)
 case loop =>
   have hl:0 < ls'.length:=by
    have:=of_decide_eq_true c2
    simpa using this
   obtain ⟨z,hz⟩:∃ z,ls'[ls'.length - 1]?=some z:=⟨ls'[ls'.length - 1],by simp⟩
   have hz2:(ls'.map V.int)[(ls'.map V.int).length - 1]?=some (.int z):=by rw [List.length_map,List.getElem?_map,hz];rfl
   have z0:0<=z:=D1.l0 z (List.mem_of_getElem? hz);have D2:cP (aW H1 l (.lst (ls'.dropLast.map V.int))) d l sd n' ls'.dropLast:=D1.left fun x hx=>D1.l0 x (List.dropLast_subset _ hx)
   refine ⟨fun σ' H'=>σ'=[some (.ref d),some (.int m),none,none,none]/\cP H' d l sd z ls'.dropLast/\eM d l H H',fun σ' H' q=>⟨_,by rw [List.length_dropLast];omega,z,ls'.dropLast,q.1,q.2.1,rfl,q.2.2⟩,?_⟩;refine ⟨_,rfl,d,_,rfl,D1.gl,.inl ⟨rfl,_,bN.of D1.lc⟩,l,_,_,rfl,rfl,D1.lc,hz2,?_⟩;have e:∀ (o:List V),(ls'.map V.int).dropLast=o->aW H1 l (.lst (ls'.map V.int).dropLast)=aW H1 l (.lst o):=fun o e=>by rw [e]
   rw [e _ List.map_dropLast.symm];refine ⟨_,rfl,d,_,rfl,D2.pn z,rfl,D2.number z0,o1.trans (eM.upd_l.trans eM.upd_d)⟩
 all_goals
  refine ⟨_,rfl,d,_,rfl,D1.gn,?_⟩;refine ⟨_,rfl,_,_,rfl,rfl,_,rfl,?_⟩;refine lQ (fun c3=>?_) (fun c3=>?_)
  ·have hp:0 < n':=of_decide_eq_true c3;refine ⟨_,rfl,_,rfl,_,_,rfl,rfl,⟨hm0,by omega⟩,_,rfl,d,_,rfl,D1.pn (n' / m),?_⟩;refine ⟨_,rfl,_,rfl,_,_,rfl,rfl,hm0,?_⟩;exact k _ _ (Int.emod_nonneg _ (by omega)) (Int.emod_lt_of_pos _ hm0) ⟨_,_,_,D1.number (Int.ediv_nonneg (by omega) (by omega))⟩ (o1.trans eM.upd_d)
  ·
   have q1:(0:Int) < 2147483647:=by decide
   refine ⟨_,rfl,d,_,rfl,D1.gs,_,_,rfl,rfl,.inr ⟨by decide,by decide⟩,_,_,rfl,rfl,_,_,rfl,rfl,q1,?_⟩;have q2:(0:Int) < 2147483399:=by decide
   refine ⟨_,rfl,_,_,rfl,rfl,.inr ⟨by decide,by decide⟩,_,_,rfl,rfl,_,_,rfl,rfl,q2,_,rfl,d,_,rfl,D1.ps _,?_⟩;have D2:=D1.seed (v:=((sd * 48271+7919) % 2147483647 * 40692+104729) % 2147483399) (by omega) (by omega);have q3:(0:Int) < 2147483563:=by decide
   have q4:(0:Int) < 2147483629:=by decide
   refine ⟨_,rfl,d,_,rfl,D2.gs,_,rfl,d,_,rfl,D2.gs,_,_,rfl,rfl,.inr ⟨by omega,by omega⟩,_,_,rfl,rfl,q3,?_⟩;refine ⟨_,rfl,_,rfl,_,_,rfl,rfl,.inr ⟨by omega,by omega⟩,_,_,rfl,rfl,q4,_,_,rfl,rfl,.inr ⟨by decide,by decide⟩,_,rfl,_,_,rfl,rfl,_,rfl,_,_,rfl,rfl,hm0,?_⟩;exact k _ _ (Int.emod_nonneg _ (by omega)) (Int.emod_lt_of_pos _ hm0) ⟨_,_,_,D2⟩ (o1.trans eM.upd_d)
end
theorem xX (x n:Int) (l:Addr):eJ [] (eK x n l)=eK x n l:=by
 unfold eJ eK;simp only [List.foldl_cons,List.foldl_nil];have e1:dB ([]:List (Key×V)) (Sum.inr ("seed": Str)) (V.int x)=[(Sum.inr ("seed": Str),V.int x)]:=rfl;have e2:dB [(Sum.inr ("seed": Str),V.int x)] (Sum.inr ("number": Str):Key) (V.int n)=[(Sum.inr ("seed": Str),V.int x),(Sum.inr ("number": Str),V.int n)]:=pU _ (by rw [cS ksn,qJ]);have e3:dB [(Sum.inr ("seed": Str),V.int x),(Sum.inr ("number": Str),V.int n)] (Sum.inr ("left": Str):Key) (V.ref l)=[(Sum.inr ("seed": Str),V.int x),(Sum.inr ("number": Str),V.int n)]++[(Sum.inr ("left": Str),V.ref l)]:=pU _ (by rw [cS ksl,cS knl,qJ]);rw [e1,e2,e3];rfl
theorem aT8:(["_law_cell"]:List Str).Nodup:=by decide +kernel
theorem aR3 (ns:List Int) (lo hi:Option Int):∃ ms:List Int,gH (ns.map V.int) lo hi=ms.map V.int/\ms.length<=ns.length:=by
 refine ⟨(ns.drop (HT.sIx ns.length 0 lo)).take (HT.sIx ns.length ns.length hi - HT.sIx ns.length 0 lo),?_,?_⟩
 ·unfold gH;rw [List.length_map,List.map_take,List.map_drop]
 ·rw [List.length_take,List.length_drop];omega
section
variable {P:Program}{w:World}{K:W.Frag}{mg:Str->Option Value}{base:Heap}
theorem qO:aS ["_law_script","_law_base","_law_cells","_law_number","_law_cell"] ["_law_script","_law_base"] (aG sH):=by refine ⟨rfl,rfl,rfl,?_,rfl,?_,?_⟩<;>decide +kernel
theorem bI1 {f:Addr}{fd:FuncData}(F:dO K "_law_deal" "_law_deal" sH f fd) (mm:mg "max"=none) (mr:mg "reversed"=none) (ml:mg "list"=none):bQ P w K mg base dS 1 f fd ["_law_script","_law_base"] (aT2 K):=by
 refine F.ok qO (fun vs H Q E h=>?_) (fun cdv A outer s H vs Q E hr h=>?_)
 ·obtain ⟨a,ns,b,rfl,_⟩:=h;rfl
 obtain ⟨a,ns,b,rfl,hS,hlen,hb0,hb1,k⟩:=h;refine ⟨_,aF (aB7 ["_law_cell"] [none] (i:=2) qO.nd rfl (Or.inl rfl) (dC (eZ mE (pv 0) (fL (pv 1)) (fL aD)))
   (fun _ _ _ _=>aU (i:=0) aT8 rfl (Or.inl rfl)) (fun _ _ _ _=>fG) (fun _ _ _ _=>bV (aH2 rfl) (by rfl) mm PyProof.Rows.boot_max (aA (pv 0) (aA (aL cZ aD (pv 0)) aC))))
  (aF (aK (i:=3) qO.nd rfl (Or.inl rfl) (aL cC aD (pv 1)))
  (aF (dN PassesOwn.never rfl (dC (pv 2)) (aU (i:=4) qO.nd rfl (Or.inl rfl))
   (aH (aK (i:=3) qO.nd rfl (Or.inl rfl) (aL fO (aL cC (aL gG (pv 3) aD) (aL fO (pv 4) aD)) aD))))
  (aH (aM (oK (dJ aJ (pv 3) (dJ aJ aD (dJ aJ (pH (dG ["_law_cell"] [none] (dC (pv 2))
   (fun _ _ _ _=>aU (i:=0) aT8 rfl (Or.inl rfl)) (fun _ _ _ _=>pB (aV wT (pv 0) (aL bR3 aD aD) (bB _))) (fun _ _ _ _=>pv 0)) (by rfl) ml (by rfl) mr) nR))) rfl rfl (by decide) (by decide)))))),?_⟩
 refine ⟨_,rfl,_,rfl,_,rfl,_,rfl,a,_,rfl,hS,fun p1 np1=>?_⟩;obtain ⟨ms,em,hms⟩:=aR3 ns (some b) (some 63);have g1:aZ H (aW H p1 (.lst (gH (ns.map V.int) (some b) (some 63)))):=aB np1 _;have hp1:bN K (aW H p1 (.lst (gH (ns.map V.int) (some b) (some 63)))) p1 (ms.map V.int):=by rw [em];exact bN.of aE
 generalize aW H p1 (.lst (gH (ns.map V.int) (some b) (some 63)))=H1 at g1 hp1 ⊢;refine ⟨p1,rfl,⟨_,hp1⟩,eO (xs:=ms.map V.int) (fun i ys σ H2=>H2=H1/\(∃ v,σ=[v])/\∃ cs:List Int,ys=cs.map V.int/\cs.length=i/\∀ x∈cs,0<=x)
  (by rw [List.length_map];exact bD (by omega)) ⟨rfl,⟨_,rfl⟩,[],rfl,rfl,fun _ z=>nomatch z⟩ (fun i ys σ H2 ⟨_,_,cs,e1,e2,_⟩=>by rw [e1,List.length_map];omega) (fun i ys σ H2 _ ⟨e,_⟩=>by rw [e];exact hp1) ?_ ?_⟩
 ·rintro i x ys σ H2 hx ⟨rfl,⟨v,rfl⟩,cs,rfl,rfl,h0⟩;obtain ⟨z,rfl,_⟩:=nV hx;refine ⟨_,rfl,_,rfl,_,_,rfl,rfl,_,_,rfl,rfl,⟨_,rfl⟩,cs++[if 0 - z > z then 0 - z else z],by rw [List.map_append];rfl,by rw [List.length_append];rfl,fun x hx=>?_⟩;rcases List.mem_append.mp hx with q | q
  ·exact h0 x q
  ·have e:x=if 0 - z > z then 0 - z else z:=by simpa using q
   rw [e];split <;> omega
 rintro ys σ H2 ⟨rfl,_,cs,rfl,hcs,h0⟩ p2 np2;have hm63:cs.length<=63:=by rw [List.length_map] at hcs;omega
 have g2:aZ H2 (aW H2 p2 (.lst (cs.map V.int))):=aB np2 _;have hp2:bN K (aW H2 p2 (.lst (cs.map V.int))) p2 (cs.map V.int):=bN.of aE;generalize aW H2 p2 (.lst (cs.map V.int))=H3 at g2 hp2 ⊢;refine ⟨_,rfl,_,_,rfl,rfl,?_⟩;refine ⟨_,rfl,p2,rfl,⟨_,hp2⟩,xD (K:=K) (a:=p2) (xs:=cs.map V.int) (fun i σ H4=>H4=H3/\∃ (x:Int) (v:Option V),σ=[some (.ref a),some (.int b),some (.ref p2),some (.int x),v]/\0<=x/\x < 2147483647)
  ⟨rfl,7919+b,none,rfl,by omega,by omega⟩ (fun i σ H4 _ ⟨e,_⟩=>by rw [e];exact hp2) ?_ ?_⟩
 ·rintro i y σ H4 hi ⟨rfl,x,v,rfl,x0,x1⟩;obtain ⟨z,rfl,_⟩:=nV hi;have q1:(0:Int) < 2147483629:=by decide
  have q2:(0:Int) < 2147483647:=by decide
  refine ⟨_,rfl,_,_,rfl,rfl,.inr ⟨by decide,by decide⟩,_,rfl,_,_,rfl,rfl,q1,_,_,rfl,rfl,_,_,rfl,rfl,q2,rfl,_,_,rfl,?_,?_⟩
  ·exact Int.emod_nonneg _ (by decide)
  ·exact Int.emod_lt_of_pos _ q2
 rintro σ H4 ⟨rfl,x,v,rfl,x0,x1⟩;intro d nd;have g4:aZ H4 (aW H4 d (.dK [])):=aB nd _;have hd4:aW H4 d (.dK []) d=some (.dK []):=aE;have hp4:=g4.seq hp2;refine ⟨_,rfl,_,rfl,p2,rfl,⟨_,hp4⟩,?_⟩;generalize aW H4 d (.dK [])=H5 at g4 hd4 hp4 ⊢;refine eO (xs:=cs.map V.int) (fun i ys σ H6=>H6=H5/\(∃ v,σ=[v])/\∃ ls:List Int,ys=ls.map V.int/\ls.length<=i/\∀ x∈ls,0<=x)
  (by rw [List.length_map];exact bD (by omega)) ⟨rfl,⟨_,rfl⟩,[],rfl,Nat.le_refl _,fun _ z=>nomatch z⟩ (fun i ys σ H2 ⟨_,_,cs,e1,e2,_⟩=>by rw [e1,List.length_map];omega) (fun i ys σ H2 _ ⟨e,_⟩=>by rw [e];exact hp4) ?_ ?_
 ·rintro i y ys σ H6 hy ⟨rfl,⟨v',rfl⟩,ls,rfl,hl,l0⟩;obtain ⟨z,rfl,hz⟩:=nV hy;have z0:0<=z:=h0 z (List.mem_of_getElem? hz);refine ⟨_,rfl,_,_,rfl,rfl,⟨by decide,by decide,by decide⟩,_,_,rfl,rfl,_,rfl,?_⟩;refine lQ (fun c=>?_) (fun c=>?_)
  ·refine ⟨_,rfl,rfl,⟨_,rfl⟩,ls++[z],by rw [List.map_append];rfl,by rw [List.length_append];show ls.length+1<=i+1;omega,fun x hx=>?_⟩;rcases List.mem_append.mp hx with q | q
   ·exact l0 x q
   ·have e:x=z:=by simpa using q
    rw [e];exact z0
  ·exact ⟨rfl,⟨_,rfl⟩,ls,rfl,Nat.le_succ_of_le hl,l0⟩
 rintro ys σ H6 ⟨rfl,_,ls,rfl,hl,l0⟩ p3 np3;have g5:aZ H6 (aW H6 p3 (.lst (ls.map V.int))):=aB np3 _;refine ⟨p3,_,rfl,bN.of aE,fun l nl=>?_⟩;generalize aW H6 p3 (.lst (ls.map V.int))=H7 at g5 nl ⊢;have g6:aZ H7 (aW H7 l (.lst (ls.map V.int).reverse)):=aB nl _;have hd7:H7 d=some (.dK []):=g5 _ _ hd4;refine ⟨g6 _ _ hd7,eK x 0 l,rfl,by show 3<=15;decide,?_⟩;have em:eJ [] (eK x 0 l)=eK x 0 l:=xX _ _ _;have neld:l≠d:=fun z=>by rw [z] at nl;rw [nl] at hd7;cases hd7
 refine k d l _ ?_ ?_ ⟨x,0,ls.reverse,⟨by rw [em];exact aE,by rw [aQ neld,aE,List.map_reverse],x0,x1,Int.le_refl 0,fun y hy=>l0 y (by simpa using hy)⟩⟩ ?_
 ·exact (g1.trans g2).free nd
 ·exact (g1.trans (g2.trans (g4.trans g5))).free nl
 ·intro c o e;rw [aQ (aR e ((g1.trans g2).free nd))];exact (g1.trans (g2.trans (g4.trans (g5.trans g6)))) c o e
theorem zY:aS ["term","parts","waiting","part"] ["term"] (aG aO5):=by refine ⟨rfl,rfl,rfl,?_,rfl,?_,?_⟩<;>decide +kernel
theorem bT8 {f:Addr}{fd:FuncData}(F:dO K "parts_of" "parts_of" aO5 f fd)
   :
  bQ P w K mg base dS (1) f fd ["term"] spParts:=by
 refine F.ok zY (fun vs H Q E h=>?_) (fun cdv A outer s H vs Q E hr h=>?_)
 ·obtain ⟨t,rfl,_⟩:=h;rfl
 obtain ⟨t,rfl,ht,hz,k⟩:=h;have hu:=kK hr;refine ⟨_,(aF (aK (i:=1) zY.nd rfl (Or.inl rfl) (bS aC))
  (aF (aK (i:=2) zY.nd rfl (Or.inl rfl) (bS (aA (pv 0) aC)))
  (aF (fK PassesOwn.never (kB (pv 2) (fun _=>rfl))
  (aF (aK (i:=3) zY.nd rfl (Or.inl rfl) (qP PySem.F.plainAttrs_list PySem.F.slot_list_pop PySem.F.type_list_pop pI (pv 2)))
  (aF (dR (fY PySem.F.plainAttrs_list PySem.F.slot_list_append PySem.F.type_list_append eP (pv 1) (aA (pv 3) aC)))
  (aH (bT (aV cR (bI aI (pv 3) aD) aJ (bB _)) (aH (dR (fY PySem.F.plainAttrs_list PySem.F.slot_list_extend PySem.F.type_list_extend fT (pv 2) (aA (bS (aA (bI aI (pv 3) aD) (aA (bI aI (pv 3) aD) aC))) aC)))) bA)))))
  (aH (aM (pv 1)))))),?_⟩
 refine ⟨Nat.zero_le _,fun l1 hl1=>?_⟩;obtain ⟨H1,e0,s1,h1⟩:=gJ hl1 (.lst []);rw [e0];clear e0;refine ⟨_,rfl,iT,fun l2 hl2=>?_⟩;have n2:=s1.free hl2;have ne:l2≠l1:=(aR h1 hl2).symm;have s2:=s1.trans (aB hl2 (.lst [.ref t.p]));have h12:aW H1 l2 (.lst [.ref t.p]) l1=some (.lst []):=by rw [aQ ne.symm];exact h1
 have h2:aW H1 l2 (.lst [.ref t.p]) l2=some (.lst [.ref t.p]):=aE;generalize aW H1 l2 (.lst [.ref t.p])=H2 at s2 h12 h2 ⊢;refine ⟨fun m σ G=>∃ (ps stk:List Tm) (v3:Option V),σ=[some (.ref t.p),some (.ref l1),some (.ref l2),v3]/\aZ H G/\G l1=some (.lst (ps.map fun u=>V.ref u.p))/\G l2=some (.lst (stk.reverse.map fun u=>V.ref u.p))/\ps++stk.flatMap Tm.pre=t.pre/\(∀ u∈stk,nK H u)/\m=(stk.flatMap Tm.pre).length,
  ⟨_,[],[t],none,rfl,s2,h12,h2,by simp,fun u hu=>by rw [List.mem_singleton.mp hu];exact ht,rfl⟩,?_⟩
 rintro m σ G ⟨ps,stk,v3,rfl,s3,g1,g2,eq,hs,rfl⟩;refine ⟨_,rfl,_,.inl ⟨_,bN.of g2,rfl⟩,?_⟩;have lt:=congrArg List.length eq;rw [List.length_append,Tm.pre_len] at lt;have ls:stk.length<=(stk.flatMap Tm.pre).length:=aD9 stk
 cases stk with
 | nil =>
  refine bC (by simp) ?_;rw [List.flatMap_nil,List.append_nil] at eq;exact ⟨_,rfl,k l1 G s3 hl1 (by rw [<- eq];exact g1)⟩
 | cons u eX =>
  refine bO (by simp) ?_;have hu:=hs u List.mem_cons_self;have up:=u.size_pos;rw [List.flatMap_cons,List.length_append,Tm.pre_len] at lt;rw [List.length_cons,List.flatMap_cons,List.length_append,Tm.pre_len] at ls;refine ⟨fun σ' G'=>∃ (ps' stk':List Tm) (v3:Option V),σ'=[some (.ref t.p),some (.ref l1),some (.ref l2),v3]/\aZ H G'/\G' l1=some (.lst (ps'.map fun u=>V.ref u.p))/\G' l2=some (.lst (stk'.reverse.map fun u=>V.ref u.p))/\ps'++stk'.flatMap Tm.pre=t.pre/\(∀ u∈stk',nK H u)/\(stk'.flatMap Tm.pre).length+1=((u :: eX).flatMap Tm.pre).length,
   fun σ' G' ⟨ps',stk',v3',e1,e2,e3,e4,e5,e6,e7⟩=>⟨_,by omega,ps',stk',v3',e1,e2,e3,e4,e5,e6,rfl⟩,?_⟩
  have er:(u :: eX).reverse.map (fun u=>V.ref u.p)=eX.reverse.map (fun u=>V.ref u.p)++[V.ref u.p]:=by rw [List.reverse_cons,List.map_append];rfl
  rw [er] at g2;refine ⟨_,rfl,.inl ⟨rfl,_,bN.of g2⟩,l2,_,V.ref u.p,rfl,rfl,g2,by simp,?_⟩;rw [List.dropLast_concat];have s4:=cX (ys:=eX.reverse.map fun u=>V.ref u.p) s3 n2;have g3:aW G l2 (.lst (eX.reverse.map fun u=>V.ref u.p)) l2=some (.lst (eX.reverse.map fun u=>V.ref u.p)):=aE;have g4:aW G l2 (.lst (eX.reverse.map fun u=>V.ref u.p)) l1=some (.lst (ps.map fun u=>V.ref u.p)):=by rw [aQ ne.symm];exact g1
  generalize aW G l2 (.lst (eX.reverse.map fun u=>V.ref u.p))=G1 at s4 g3 g4 ⊢;refine ⟨_,rfl,.inl ⟨rfl,_,bN.of g4⟩,_,rfl,l1,_,_,rfl,rfl,g4,bD (by rw [List.length_map];omega),?_⟩;have s5:=cX (ys:=(ps++[u]).map fun u=>V.ref u.p) s4 hl1;have ea:(ps.map fun u=>V.ref u.p)++[V.ref u.p]=(ps++[u]).map fun u=>V.ref u.p:=by rw [List.map_append];rfl
  rw [ea];have g5:aW G1 l1 (.lst ((ps++[u]).map fun u=>V.ref u.p)) l1=some (.lst ((ps++[u]).map fun u=>V.ref u.p)):=aE;have g6:aW G1 l1 (.lst ((ps++[u]).map fun u=>V.ref u.p)) l2=some (.lst (eX.reverse.map fun u=>V.ref u.p)):=by rw [aQ ne];exact g3
  generalize aW G1 l1 (.lst ((ps++[u]).map fun u=>V.ref u.p))=G2 at s5 g5 g6 ⊢;have hu5:=hu.ts (.of s5);refine ⟨_,rfl,u.p,_,_,.str u.w,rfl,rfl,aX.of hu5.at,jG,rfl,_,rfl,?_⟩
  cases u with
  | op p s a b =>
   refine bO (decide_eq_true rfl) ?_;refine ⟨_,rfl,.inl ⟨rfl,_,bN.of g6⟩,_,rfl,p,_,_,.ref b.p,rfl,rfl,aX.of hu5.1,rfl,_,rfl,p,_,_,.ref a.p,rfl,rfl,aX.of hu5.1,rfl,bM,fun l3 hl3=>?_⟩;have s6:=s5.trans (aB hl3 (.lst [.ref b.p,.ref a.p]));have n31:l1≠l3:=aR g5 hl3;have n32:l2≠l3:=aR g6 hl3;have g7:aW G2 l3 (.lst [.ref b.p,.ref a.p]) l3=some (.lst [.ref b.p,.ref a.p]):=aE;have g8:aW G2 l3 (.lst [.ref b.p,.ref a.p]) l1=_:=(aQ n31).trans g5;have g9:aW G2 l3 (.lst [.ref b.p,.ref a.p]) l2=_:=(aQ n32).trans g6;generalize aW G2 l3 (.lst [.ref b.p,.ref a.p])=G3 at s6 g7 g8 g9 ⊢;refine ⟨l2,l3,_,_,rfl,rfl,g9,g7,by rw [List.length_map,List.length_reverse];have:=bD (n:=1000) (Nat.le_refl _);show eX.length+2<=_;omega,?_⟩;have ez:(eX.reverse.map fun u=>V.ref u.p)++[.ref b.p,.ref a.p]=(a :: b :: eX).reverse.map fun u=>V.ref u.p:=by simp
   rw [ez];refine ⟨ps++[.op p s a b],a :: b :: eX,_,rfl,cX s6 n2,(aQ ne.symm).trans g8,aE,?_,fun x hx=>?_,?_⟩
   ·rw [<- eq];simp [Tm.pre]
   ·rcases List.mem_cons.mp hx with e | e
    ·rw [e];exact hu.2.1
    ·rcases List.mem_cons.mp e with e | e
     ·rw [e];exact hu.2.2
     ·exact hs x (List.mem_cons_of_mem _ e)
   ·simp [Tm.pre] <;> omega
  | num p n =>
   refine bC (fun z=>cD9 (of_decide_eq_true z)) ?_;refine ⟨ps++[.num p n],eX,_,rfl,s5,g5,g6,?_,fun x hx=>hs x (List.mem_cons_of_mem _ hx),?_⟩
   ·rw [<- eq];simp [Tm.pre]
   ·simp [Tm.pre] <;> omega
  | nam p n =>
   refine bC (fun z=>cF5 (of_decide_eq_true z)) ?_;refine ⟨ps++[.nam p n],eX,_,rfl,s5,g5,g6,?_,fun x hx=>hs x (List.mem_cons_of_mem _ hx),?_⟩
   ·rw [<- eq];simp [Tm.pre]
   ·simp [Tm.pre] <;> omega
theorem bB3:(["part"]:List Str).Nodup:=by decide +kernel
theorem bX4:aS ["term"] ["term"] (aG aM9):=by refine ⟨rfl,rfl,rfl,?_,rfl,?_,?_⟩<;>decide +kernel
theorem bP2 {f:Addr}{fd:FuncData}(F:dO K "names_in" "names_in" aM9 f fd)
  (C_Prt:Cl P w K mg base 1 ["term"] spParts "parts_of")
   :
  bQ P w K mg base dS (2) f fd ["term"] spNamesIn:=by
 refine F.ok bX4 (fun vs H Q E h=>?_) (fun cdv A outer s H vs Q E hr h=>?_)
 ·obtain ⟨t,rfl,_⟩:=h;rfl
 obtain ⟨t,rfl,ht,hz,k⟩:=h;have hu:=kK hr;refine ⟨_,(aH (aM (dG ["part"] [none] (dC (bR C_Prt hr (aA (pv 0) aC))) (fun _ _ _ _=>(aU (i:=0) (bB3) rfl (Or.inl rfl))) (fun _ _ _ _=>(pB (aV cR (bI (qY K) (pv 0) aD) aJ (bB _)))) (fun _ _ _ _=>(bI (qY K) (pv 0) aD))))),?_⟩;refine ⟨_,rfl,t,rfl,ht,hz,fun r H1 s1 _ h1=>⟨r,rfl,⟨_,bN.of h1⟩,?_⟩⟩;have pl:=Tm.pre_len t;refine eO (K:=K) (a:=r) (xs:=t.pre.map fun u=>V.ref u.p) (fun i ys σ G=>G=H1/\(∃ v,σ=[v])/\ys=((t.pre.take i).filterMap Tm.nm).map V.str)
  (eY (by rw [List.length_map];omega)) ⟨rfl,⟨_,rfl⟩,rfl⟩ (fun i ys σ G ⟨_,_,e⟩=>by
   rw [e,List.length_map];exact Nat.le_trans (List.length_filterMap_le _ _) (by rw [List.length_take];omega)) (by rintro i ys σ G _ ⟨e,_⟩;rw [e];exact bN.of h1) ?_ ?_
 ·rintro i v ys σ G hv ⟨rfl,⟨v',rfl⟩,rfl⟩;obtain ⟨u,hu,rfl⟩:∃ u,t.pre[i]?=some u/\v=V.ref u.p:=by
   rw [List.getElem?_map] at hv
   cases e:t.pre[i]? with
   | none=>rw [e] at hv;cases hv
   | some u=>rw [e] at hv;exact ⟨u,rfl,(Option.some.inj hv).symm⟩
  have hU:=(nK.pre ht u (List.mem_of_getElem? hu)).ts (.of s1);refine ⟨_,rfl,u.p,_,_,.str u.w,rfl,rfl,aX.of hU.at,jG,rfl,_,rfl,?_⟩;rw [bF hu,List.filterMap_append,List.map_append]
  cases u with
  | nam p x=>exact bO (decide_eq_true rfl) ⟨_,rfl,p,_,_,.str x,rfl,rfl,aX.of hU,rfl,rfl,⟨_,rfl⟩,rfl⟩
  | num p n=>exact bC (fun z=>wMN (of_decide_eq_true z)) ⟨rfl,⟨_,rfl⟩,by rw [List.filterMap_cons_none (by rfl)];simp⟩
  | op p s a b=>exact bC (fun z=>wOM (of_decide_eq_true z)) ⟨rfl,⟨_,rfl⟩,by rw [List.filterMap_cons_none (by rfl)];simp⟩
 ·rintro ys σ G ⟨rfl,_,rfl⟩ l hl;rw [List.length_map,List.take_length,Tm.pre_names];exact k l _ (s1.trans (aB hl _)) aE
theorem bY2:aS ["row"] ["row"] (aG aL8):=by refine ⟨rfl,rfl,rfl,?_,rfl,?_,?_⟩<;>decide +kernel
theorem bL0 {f:Addr}{fd:FuncData}(F:dO K "sets_name" "sets_name" aL8 f fd)
  {cT:Addr}(m_THROWS:mg "THROWS"=some (.ref cT)) (hT:∀ H,aX K H cT (dZ.map V.str))
   :
  bQ P w K mg base dS (1) f fd ["row"] spSetsN:=by
 refine F.ok bY2 (fun vs H Q E h=>?_) (fun cdv A outer s H vs Q E hr h=>?_)
 ·obtain ⟨r,rfl,_⟩:=h;rfl
 obtain ⟨r,rfl,hr0,k⟩:=h;refine ⟨_,(aH (aM (cC0 (dX cH (bI aI (pv 0) aD) (gX (v:= .ref cT) (by rfl) m_THROWS rfl) rfl) (mS (dX cR (bI aI (pv 0) aD) aJ (bB _)))))),?_⟩;rw [<- aQ9 hr0] at k;refine ⟨_,rfl,r.p,_,_,.str r.w,rfl,rfl,aX.of hr0.at,jG,cT,_,rfl,.inr (hT _),rfl,eA _,_,rfl,?_⟩;have ei:lC (V.str r.w) (dZ.map V.str)=decide (r.w∈dZ):=cJ _ _
 by_cases c:r.w∈dZ
 ·refine bO (ei.trans (decide_eq_true c)) ?_;rw [decide_eq_true c] at k;exact k
 ·refine bC (fun z=>c (of_decide_eq_true (ei.symm.trans z))) ?_;rw [decide_eq_false c,Bool.false_or] at k;refine ⟨_,rfl,r.p,_,_,.str r.w,rfl,rfl,aX.of hr0.at,jG,rfl,?_⟩;rw [show decide (V.str r.w=V.str "let")=decide (r.w="let") from by simp];exact k
theorem cC7:aS ["row"] ["row"] (aG aM2):=by refine ⟨rfl,rfl,rfl,?_,rfl,?_,?_⟩<;>decide +kernel
theorem bW2 {f:Addr}{fd:FuncData}(F:dO K "names_asked" "names_asked" aM2 f fd)
  (C_NmI:Cl P w K mg base 2 ["term"] spNamesIn "names_in")
   :
  bQ P w K mg base dS (3) f fd ["row"] spAsked:=by
 refine F.ok cC7 (fun vs H Q E h=>?_) (fun cdv A outer s H vs Q E hr h=>?_)
 ·obtain ⟨r,xs,rfl,_⟩:=h;rfl
 obtain ⟨r,xs,rfl,hr0,ok,k⟩:=h;refine ⟨_,(aF (bT (aV cR (bI aI (pv 0) aD) aJ (bB _)) (aH (aM (bR C_NmI hr (aA (bI aI (pv 0) aD) aC)))) bA)
  (aF (bT (aV cH (bI aI (pv 0) aD) (aO (aA aJ (aA aJ aC))) rfl) (aH (aM (bR C_NmI hr (aA (bI aI (pv 0) aD) aC)))) bA)
  (aH (aM (bS aC))))),?_⟩
 refine ⟨_,rfl,r.p,_,_,.str r.w,rfl,rfl,aX.of hr0.at,jG,rfl,_,rfl,?_⟩;generalize hP:r.p=P
 cases r with
 | lt p x t =>
  obtain rfl:p=P:=hP;refine bO (decide_eq_true rfl) ?_;refine ⟨_,rfl,p,_,_,.ref t.p,rfl,rfl,aX.of hr0.1,rfl,t,rfl,hr0.2,by have:=(ok t (List.mem_singleton.mpr rfl)).1;omega,fun q H' s h=>k q H' s h⟩
 | tell p t =>
  obtain rfl:p=P:=hP;refine bC (fun z=>wTL (of_decide_eq_true z)) ?_;refine ⟨_,rfl,p,_,_,.str "tell",rfl,rfl,aX.of hr0.1,rfl,bM,fun t2 ht2=>?_⟩;have s1:=aB ht2 (.tup [.str "tell",.str "when"]);refine ⟨t2,[.str "tell",.str "when"],rfl,.inr (aX.of aE),rfl,by decide,_,rfl,?_⟩;refine bO (by decide +kernel) ?_;exact ⟨_,rfl,p,_,_,.ref t.p,rfl,rfl,aX.of (s1 _ _ hr0.1),rfl,t,rfl,hr0.2.ts (.of s1),by have:=(ok t (List.mem_singleton.mpr rfl)).1;omega,fun q H' s h=>k q H' (s1.trans s) h⟩
 | when p pa pb t a b =>
  obtain rfl:p=P:=hP;refine bC (fun z=>wWL (of_decide_eq_true z)) ?_;refine ⟨_,rfl,p,_,_,.str "when",rfl,rfl,aX.of hr0.1,rfl,bM,fun t2 ht2=>?_⟩;have s1:=aB ht2 (.tup [.str "tell",.str "when"]);refine ⟨t2,[.str "tell",.str "when"],rfl,.inr (aX.of aE),rfl,by decide,_,rfl,?_⟩;refine bO (by decide +kernel) ?_;exact ⟨_,rfl,p,_,_,.ref t.p,rfl,rfl,aX.of (s1 _ _ hr0.1),rfl,t,rfl,hr0.2.1.ts (.of s1),by have:=(ok t (List.mem_singleton.mpr rfl)).1;omega,fun q H' s h=>k q H' (s1.trans s) h⟩
 | times p pb n b =>
  obtain rfl:p=P:=hP;refine bC (fun z=>wML (of_decide_eq_true z)) ?_;refine ⟨_,rfl,p,_,_,.str "times",rfl,rfl,aX.of hr0.1,rfl,bM,fun t2 ht2=>?_⟩;have s1:=aB ht2 (.tup [.str "tell",.str "when"]);refine ⟨t2,[.str "tell",.str "when"],rfl,.inr (aX.of aE),rfl,by decide,_,rfl,?_⟩;refine bC (by decide +kernel) ?_;exact ⟨Nat.zero_le _,fun l hl=>k l _ (s1.trans (aB hl _)) aE⟩
 | thr p w x vs =>
  obtain rfl:p=P:=hP;have hw:=hr0.2.w;refine bC (fun z=>bW8 hw (of_decide_eq_true z)) ?_;refine ⟨_,rfl,p,_,_,.str w,rfl,rfl,aX.of hr0.1,jG,bM,fun t2 ht2=>?_⟩;have s1:=aB ht2 (.tup [.str "tell",.str "when"]);refine ⟨t2,[.str "tell",.str "when"],rfl,.inr (aX.of aE),rfl,by decide,_,rfl,?_⟩;refine bC (bN9 hw) ?_;exact ⟨Nat.zero_le _,fun l hl=>k l _ (s1.trans (aB hl _)) aE⟩
theorem bC1:(["row"]:List Str).Nodup:=by decide +kernel
theorem cD6:aS ["rows"] ["rows"] (aG aI8):=by refine ⟨rfl,rfl,rfl,?_,rfl,?_,?_⟩<;>decide +kernel
theorem bW3 {f:Addr}{fd:FuncData}(F:dO K "as_steps" "as_steps" aI8 f fd)
   :
  bQ P w K mg base dS (1) f fd ["rows"] spAsS:=by
 refine F.ok cD6 (fun vs H Q E h=>?_) (fun cdv A outer s H vs Q E hr h=>?_)
 ·obtain ⟨p,rs,rfl,_⟩:=h;rfl
 obtain ⟨p,rs,rfl,hp,hl,k⟩:=h;refine ⟨_,(aH (aM (dG ["row"] [none] (mX (pv 0)) (fun _ _ _ _=>(aU (i:=0) (bC1) rfl (Or.inl rfl))) (fun _ _ _ _=>fG) (fun _ _ _ _=>(aO (aA aJ (aA (pv 0) aC))))))),?_⟩;refine ⟨_,rfl,p,rfl,⟨_,aX.of hp⟩,qM (K:=K) (a:=p) (xs:=cI rs) (fun i zs σ G=>aZ H G/\(∃ v,σ=[v])/\dP (kI G) zs ((rs.take i).map fun r=>(("row": Str),r)))
  (by rw [bW];exact eY (by omega)) ⟨aZ.refl _,⟨_,rfl⟩,trivial⟩ (by rintro i zs σ G ⟨_,_,e⟩;rw [e.length,List.length_map,List.length_take];omega) (by rintro i zs σ G _ ⟨e,_⟩;exact aX.of (e _ _ hp)) ?_ ?_⟩
 ·rintro i v zs σ G hv ⟨s1,⟨v',rfl⟩,tw⟩;obtain ⟨r,rfl,hr'⟩:=jH hv;refine ⟨_,rfl,bM,fun t ht=>⟨s1.trans (aB ht _),⟨_,rfl⟩,?_⟩⟩;rw [bF hr',List.map_append];exact dP.append (tw.mono fun _ _ z=>kI.ts (.of (aB ht _)) z) ⟨⟨t,rfl,aE⟩,trivial⟩
 ·rintro zs σ G ⟨s1,_,tw⟩ l hl';rw [bW,List.take_length] at tw;exact k l zs _ (s1.trans (aB hl' _)) aE (tw.mono fun _ _ z=>kI.ts (.of (aB hl' _)) z)
theorem cB9:aS ["row"] ["row"] (aG aI4):=by refine ⟨rfl,rfl,rfl,?_,rfl,?_,?_⟩<;>decide +kernel
theorem bT3 {f:Addr}{fd:FuncData}(F:dO K "inner_steps" "inner_steps" aI4 f fd)
  (C_AsS:Cl P w K mg base 1 ["rows"] spAsS "as_steps")
   :
  bQ P w K mg base dS (2) f fd ["row"] spInner:=by
 refine F.ok cB9 (fun vs H Q E h=>?_) (fun cdv A outer s H vs Q E hr h=>?_)
 ·obtain ⟨r,rfl,_⟩:=h;rfl
 obtain ⟨r,rfl,hr0,hc,k⟩:=h;refine ⟨_,(aF (bT (aV cR (bI aI (pv 0) aD) aJ (bB _)) (aH (aM (aL gF (aL gF (aL gF (bR C_AsS hr (aA (bI aI (pv 0) aD) aC)) (bS (aA (aO (aA aJ (aA (pv 0) aC))) aC))) (bR C_AsS hr (aA (bI aI (pv 0) aD) aC))) (bS (aA (aO (aA aJ (aA (pv 0) aC))) aC))))) bA)
  (aF (bT (aV cR (bI aI (pv 0) aD) aJ (bB _)) (aH (aM (aL gF (bR C_AsS hr (aA (bI aI (pv 0) aD) aC)) (bS (aA (aO (aA aJ (aA (pv 0) aC))) aC))))) bA)
  (aH (aM (bS aC))))),?_⟩
 refine ⟨_,rfl,r.p,_,_,.str r.w,rfl,rfl,aX.of hr0.at,jG,rfl,_,rfl,?_⟩;have ln:=gU r.kids;have ck:=aX7 r;generalize hP:r.p=P
 cases r with
 | when p pa pb t a b =>
  obtain rfl:p=P:=hP;refine bO (decide_eq_true rfl) ?_;have la:a.length+b.length<=4000:=by simp only [Rw.kids,List.length_append] at ln ck;omega
  obtain ⟨hp,_,ha,hb,ra,rb⟩:=id hr0;refine ⟨_,rfl,p,_,_,.ref pa,rfl,rfl,aX.of hp,rfl,pa,a,rfl,ha,by omega,fun r1 z1 H1 s1 h1 t1=>?_⟩;refine ⟨_,rfl,bM,fun t2 ht2=>⟨iT,fun l2 hl2=>?_⟩⟩;have s2:=(aB ht2 (.tup [.str "else",.ref p])).trans (aB hl2 (.lst [.ref t2]));have h2:aW (aW H1 t2 (.tup [.str "else",.ref p])) l2 (.lst [.ref t2]) l2=some (.lst [.ref t2]):=aE;have e2:kI (aW (aW H1 t2 (.tup [.str "else",.ref p])) l2 (.lst [.ref t2])) (.ref t2) (("else": Str),Rw.when p pa pb t a b):=⟨t2,rfl,(aB hl2 _) _ _ aE⟩
  generalize aW (aW H1 t2 (.tup [.str "else",.ref p])) l2 (.lst [.ref t2])=H2 at s2 h2 e2 ⊢;have l1:=t1.length;rw [List.length_map] at l1;refine ⟨r1,l2,_,_,rfl,rfl,s2 _ _ h1,h2,Nat.le_of_lt (eY (by rw [l1];show a.length+1<=9000000;omega)),fun l3 hl3=>?_⟩;have s3:=s2.trans (aB hl3 (.lst (z1++[.ref t2])));have h3:aW H2 l3 (.lst (z1++[.ref t2])) l3=some (.lst (z1++[.ref t2])):=aE;have t3:dP (kI (aW H2 l3 (.lst (z1++[.ref t2])))) (z1++[.ref t2]) (a.map (fun r=>(("row": Str),r))++[(("else": Str),Rw.when p pa pb t a b)]):=dP.append (t1.mono fun _ _ z=>kI.ts (.of s3) z) ⟨e2.ts (.of (aB hl3 _)),trivial⟩;generalize aW H2 l3 (.lst (z1++[.ref t2]))=H3 at s3 h3 t3 ⊢;have g3:=s1.trans s3;refine ⟨_,rfl,p,_,_,.ref pb,rfl,rfl,aX.of (g3 _ _ hp),rfl,pb,b,rfl,g3 _ _ hb,by omega,fun r4 z4 H4 s4 h4 t4=>?_⟩;have l4:=t4.length;rw [List.length_map] at l4;refine ⟨l3,r4,_,_,rfl,rfl,s4 _ _ h3,h4,Nat.le_of_lt (eY (by simp only [List.length_append,List.length_cons,List.length_nil,l1,l4];omega)),fun l5 hl5=>?_⟩
  have s5:=s4.trans (aB hl5 (.lst (z1++[.ref t2]++z4)));have h5:aW H4 l5 (.lst (z1++[.ref t2]++z4)) l5=some (.lst (z1++[.ref t2]++z4)):=aE;have t5:=dP.append (t3.mono fun _ _ z=>kI.ts (.of s5) z) (t4.mono fun _ _ z=>kI.ts (.of (aB hl5 (.lst (z1++[.ref t2]++z4)))) z);generalize aW H4 l5 (.lst (z1++[.ref t2]++z4))=H5 at s5 h5 t5 ⊢;refine ⟨_,rfl,bM,fun t6 ht6=>⟨iT,fun l6 hl6=>?_⟩⟩;have s6:=(aB ht6 (.tup [.str "end",.ref p])).trans (aB hl6 (.lst [.ref t6]));have h6:aW (aW H5 t6 (.tup [.str "end",.ref p])) l6 (.lst [.ref t6]) l6=some (.lst [.ref t6]):=aE;have e6:kI (aW (aW H5 t6 (.tup [.str "end",.ref p])) l6 (.lst [.ref t6])) (.ref t6) (("end": Str),Rw.when p pa pb t a b):=⟨t6,rfl,(aB hl6 _) _ _ aE⟩
  generalize aW (aW H5 t6 (.tup [.str "end",.ref p])) l6 (.lst [.ref t6])=H6 at s6 h6 e6 ⊢;refine ⟨l5,l6,_,_,rfl,rfl,s6 _ _ h5,h6,Nat.le_of_lt (eY (by simp only [List.length_append,List.length_cons,List.length_nil];omega)),fun l7 hl7=>?_⟩;refine k l7 _ _ (g3.trans (s5.trans (s6.trans (aB hl7 _)))) aE ?_;exact dP.append (t5.mono fun _ _ z=>kI.ts (.of (s6.trans (aB hl7 _))) z) ⟨e6.ts (.of (aB hl7 _)),trivial⟩
 | times p pb n b =>
  obtain rfl:p=P:=hP;refine bC (fun z=>wTW (of_decide_eq_true z)) ?_;refine ⟨_,rfl,p,_,_,.str "times",rfl,rfl,aX.of hr0.at,jG,rfl,_,rfl,?_⟩;refine bO (decide_eq_true rfl) ?_;have la:b.length<=4000:=by simp only [Rw.kids] at ln ck;omega
  obtain ⟨hp,hb,rb⟩:=id hr0;refine ⟨_,rfl,p,_,_,.ref pb,rfl,rfl,aX.of hp,rfl,pb,b,rfl,hb,by omega,fun r1 z1 H1 s1 h1 t1=>?_⟩;refine ⟨_,rfl,bM,fun t2 ht2=>⟨iT,fun l2 hl2=>?_⟩⟩;have s2:=(aB ht2 (.tup [.str "end",.ref p])).trans (aB hl2 (.lst [.ref t2]));have h2:aW (aW H1 t2 (.tup [.str "end",.ref p])) l2 (.lst [.ref t2]) l2=some (.lst [.ref t2]):=aE;have e2:kI (aW (aW H1 t2 (.tup [.str "end",.ref p])) l2 (.lst [.ref t2])) (.ref t2) (("end": Str),Rw.times p pb n b):=⟨t2,rfl,(aB hl2 _) _ _ aE⟩
  generalize aW (aW H1 t2 (.tup [.str "end",.ref p])) l2 (.lst [.ref t2])=H2 at s2 h2 e2 ⊢;have l1:=t1.length;rw [List.length_map] at l1;refine ⟨r1,l2,_,_,rfl,rfl,s2 _ _ h1,h2,Nat.le_of_lt (eY (by rw [l1];show b.length+1<=9000000;omega)),fun l3 hl3=>?_⟩;refine k l3 _ _ (s1.trans (s2.trans (aB hl3 _))) aE ?_;exact dP.append (t1.mono fun _ _ z=>kI.ts (.of (s2.trans (aB hl3 _))) z) ⟨e2.ts (.of (aB hl3 _)),trivial⟩
 | thr p w x vs =>
  obtain rfl:p=P:=hP;have hw:=hr0.2.w;refine bC (fun z=>bQ3 hw (of_decide_eq_true z)) ?_;refine ⟨_,rfl,p,_,_,.str w,rfl,rfl,aX.of hr0.at,jG,rfl,_,rfl,?_⟩;refine bC (fun z=>bN0 hw (of_decide_eq_true z)) ?_;exact ⟨Nat.zero_le _,fun l hl=>k l [] _ (aB hl _) aE trivial⟩
 | lt p x t =>
  obtain rfl:p=P:=hP;refine bC (fun z=>wLW (of_decide_eq_true z)) ?_;refine ⟨_,rfl,p,_,_,.str "let",rfl,rfl,aX.of hr0.at,jG,rfl,_,rfl,?_⟩;refine bC (fun z=>wLT (of_decide_eq_true z)) ?_;exact ⟨Nat.zero_le _,fun l hl=>k l [] _ (aB hl _) aE trivial⟩
 | tell p t =>
  obtain rfl:p=P:=hP;refine bC (fun z=>wEW (of_decide_eq_true z)) ?_;refine ⟨_,rfl,p,_,_,.str "tell",rfl,rfl,aX.of hr0.at,jG,rfl,_,rfl,?_⟩;refine bC (fun z=>wET (of_decide_eq_true z)) ?_;exact ⟨Nat.zero_le _,fun l hl=>k l [] _ (aB hl _) aE trivial⟩
theorem bG5:(["step"]:List Str).Nodup:=by decide +kernel
theorem bH1:(["inner","count"]:List Str).Nodup:=by decide +kernel
theorem pO:aS ["rows","steps","count","waiting","step","row"] ["rows"] (aG aI0):=by refine ⟨rfl,rfl,rfl,?_,rfl,?_,?_⟩<;>decide +kernel
theorem bP8 {f:Addr}{fd:FuncData}(F:dO K "steps_of" "steps_of" aI0 f fd)
  (C_AsS:Cl P w K mg base 1 ["rows"] spAsS "as_steps")
  (C_Inn:Cl P w K mg base 2 ["row"] spInner "inner_steps")
  (m_reversed:mg "reversed"=none) :
  bQ P w K mg base dS (3) f fd ["rows"] spSteps:=by
 refine F.ok pO (fun vs H Q E h=>?_) (fun cdv A outer s H vs Q E hr h=>?_)
 ·obtain ⟨p,rs,rfl,_⟩:=h;rfl
 obtain ⟨p,rs,rfl,hp,hR,hc,k⟩:=h;refine ⟨_,(aF (aK (i:=1) pO.nd rfl (Or.inl rfl) (bS aC))
  (aF (aK (i:=2) pO.nd rfl (Or.inr rfl) aD)
  (aF (aB7 ["step"] [none] (i:=3) pO.nd rfl (Or.inl rfl) (aY1 (bR C_AsS hr (aA (pv 0) aC)) (by rfl) m_reversed) (fun _ _ _ _=>(aU (i:=0) (bG5) rfl (Or.inl rfl))) (fun _ _ _ _=>fG) (fun _ _ _ _=>(aO (aA (bI (qY K) (pv 0) aD) (aA (bI (qY K) (pv 0) aD) (aA (sJ mN aD) aC))))))
  (aF (fK PassesOwn.never (kB (pv 3) (fun _=>rfl))
  (aF (aK (i:=4) pO.nd rfl (Or.inl rfl) (qP PySem.F.plainAttrs_list PySem.F.slot_list_pop PySem.F.type_list_pop pI (pv 3)))
  (aH (bT (aV cR (bI aI (pv 4) aD) aJ (bB _)) (aF (aK (i:=5) pO.nd rfl (Or.inl rfl) (bI aI (pv 4) aD))
  (aF (dR (fY PySem.F.plainAttrs_list PySem.F.slot_list_append PySem.F.type_list_append eP (pv 1) (aA (aO (aA aJ (aA (pv 5) (aA (pv 2) aC)))) aC)))
  (aF (dR (fY PySem.F.plainAttrs_list PySem.F.slot_list_extend PySem.F.type_list_extend fT (pv 3) (aA (dG ["inner","count"] [none,some 2] (aY1 (bR C_Inn hr (aA (pv 5) aC)) (by rfl) m_reversed) (fun _ _ _ _=>(aU (i:=0) (bH1) rfl (Or.inl rfl))) (fun _ _ _ _=>fG) (fun _ _ _ _=>(aO (aA (bI (qY K) (pv 0) aD) (aA (bI (qY K) (pv 0) aD) (aA (pv 1) aC)))))) aC)))
  (aH (bM6 (i:=2) pO.nd rfl (Or.inr rfl) aD bM1))))) (aH (dR (fY PySem.F.plainAttrs_list PySem.F.slot_list_append PySem.F.type_list_append eP (pv 1) (aA (pv 4) aC))))))))
  (aH (aM (pv 1))))))),?_⟩
 have rl:=gU rs;have tl:=gY rs;refine ⟨Nat.zero_le _,fun l1 hl1=>?_⟩;obtain ⟨H1,e0,s1,h1⟩:=gJ hl1 (.lst []);rw [e0];clear e0;refine ⟨_,rfl,p,rs,rfl,s1 _ _ hp,by omega,fun r z H2 s2 h2 t2=>⟨r,_,rfl,bN.of h2,?_⟩⟩;have zl:=t2.length;rw [List.length_map] at zl;have t2r:=oM t2;refine vJ (K:=K) (a:=r) (xs:=z) (fun i ys σ G=>aZ H2 G/\(∃ v,σ=[v])/\dP (fS G) ys (((rs.map fun r=>(("row": Str),r)).reverse).take i))
  (eY (by omega)) ⟨aZ.refl _,⟨_,rfl⟩,trivial⟩ (by rintro i ys σ G ⟨_,_,e⟩;rw [e.length,List.length_take];omega) (by rintro i ys σ G _ ⟨e,_⟩;exact bN.of (e _ _ h2)) ?_ ?_
 ·rintro i v ys σ G hv ⟨s3,⟨v',rfl⟩,tw⟩;obtain ⟨s,hs,q,rfl,hq⟩:=iN t2r hv;refine ⟨_,rfl,q,_,_,.str s.1,rfl,rfl,aX.of (s3 _ _ hq),rfl,_,rfl,q,_,_,.ref s.2.p,rfl,rfl,aX.of (s3 _ _ hq),rfl,_,rfl,by show 3<=sizeLine;decide,fun t ht=>⟨s3.trans (aB ht _),⟨_,rfl⟩,?_⟩⟩;rw [bF hs];exact dP.append (tw.mono fun _ _ z=>fS.ts (.of (aB ht _)) z) ⟨⟨t,_,rfl,aE⟩,trivial⟩
 rintro ys σ G ⟨s3,_,tw⟩ lw hlw;have el:z.length=((rs.map fun r=>(("row": Str),r)).reverse).length:=by rw [List.length_reverse,List.length_map];exact zl
 rw [el,List.take_length] at tw;have s4:=s1.trans (s2.trans (s3.trans (aB hlw (.lst ys))));have h4:aW G lw (.lst ys) lw=some (.lst ys):=aE;have ne:lw≠l1:=(aR ((s2.trans s3) _ _ h1) hlw).symm;have g1:aW G lw (.lst ys) l1=some (.lst []):=(aQ ne.symm).trans ((s2.trans s3) _ _ h1);have nw:H lw=none:=(s1.trans (s2.trans s3)).free hlw;replace tw:=tw.mono fun _ _ z=>fS.ts (.of (aB hlw (.lst ys))) z
 generalize aW G lw (.lst ys)=H4 at s4 h4 g1 tw ⊢;refine ⟨fun m σ G=>∃ (em stk:List Stp) (ez wz:List V) (n:Int) (v4 v5:Option V),σ=[some (.ref p),some (.ref l1),some (.int n),some (.ref lw),v4,v5]/\aZ H G/\G l1=some (.lst ez)/\dP (fS G) ez em/\G lw=some (.lst wz)/\dP (fS G) wz stk.reverse/\em++stk.flatMap expd=iP rs/\(∀ s∈stk,eT H s.2/\s.2.cnt<=4000)/\m=(stk.flatMap expd).length,
  ⟨_,[],rs.map fun r=>(("row": Str),r),[],ys,0,none,none,rfl,s4,g1,trivial,h4,tw,kQ rs,fun s hs=>by
   obtain ⟨r0,m0,e0⟩:=List.mem_map.mp hs;rw [<- e0];have:=oH m0;exact ⟨hR.mem _ m0,by show r0.cnt<=4000;omega⟩,rfl⟩,?_⟩
 clear tw h4 g1;rintro m σ G ⟨em,stk,ez,wz,n,v4,v5,rfl,s5,g1,t5,g2,t6,eq,hs,rfl⟩;refine ⟨_,rfl,_,.inl ⟨_,bN.of g2,rfl⟩,?_⟩;have lt:=congrArg List.length eq;rw [List.length_append] at lt;have ls:=yL stk;have l5:=t5.length;have l6:=t6.length;rw [List.length_reverse] at l6
 cases stk with
 | nil =>
  obtain rfl:wz=[]:=List.length_eq_zero_iff.mp l6;refine bC (by simp) ?_;rw [List.flatMap_nil,List.append_nil] at eq;rw [eq] at t5;exact ⟨_,rfl,k l1 ez G s5 hl1 g1 t5⟩
 | cons s eX =>
  rw [List.reverse_cons] at t6;obtain ⟨us,u,rfl,t7,q,n0,rfl,hq⟩:=qC t6;refine bO (by simp) ?_;have hS:=hs s List.mem_cons_self;have sp:=aB0 s;rw [List.flatMap_cons,List.length_append] at lt ls;rw [List.length_cons] at ls l6;rw [List.length_append,List.length_cons,List.length_nil] at l6;refine ⟨fun σ' G'=>∃ (em' stk':List Stp) (ez' wz':List V) (n:Int) (v4 v5:Option V),σ'=[some (.ref p),some (.ref l1),some (.int n),some (.ref lw),v4,v5]/\aZ H G'/\G' l1=some (.lst ez')/\dP (fS G') ez' em'/\G' lw=some (.lst wz')/\dP (fS G') wz' stk'.reverse/\em'++stk'.flatMap expd=iP rs/\(∀ s∈stk',eT H s.2/\s.2.cnt<=4000)/\(stk'.flatMap expd).length+1=((s :: eX).flatMap expd).length,
   fun σ' G' ⟨em',stk',ez',wz',n',v4',v5',e1,e2,e3,e4,e5,e6,e7,e8,e9⟩=>⟨_,by omega,em',stk',ez',wz',n',v4',v5',e1,e2,e3,e4,e5,e6,e7,e8,rfl⟩,?_⟩
  refine ⟨_,rfl,.inl ⟨rfl,_,bN.of g2⟩,lw,_,V.ref q,rfl,rfl,g2,by simp,?_⟩;rw [List.dropLast_concat];have ts6:=TS.lst (ys:=us) g2;have s6:=cX (ys:=us) s5 nw;have g3:aW G lw (.lst us) lw=some (.lst us):=aE;have g4:aW G lw (.lst us) l1=some (.lst ez):=(aQ ne.symm).trans g1;have hq6:=ts6 _ _ hq;replace t5:=t5.mono fun _ _ z=>fS.ts ts6 z
  replace t7:=t7.mono fun _ _ z=>fS.ts ts6 z
  generalize aW G lw (.lst us)=G1 at s6 g3 g4 hq6 t5 t7 ⊢;refine ⟨_,rfl,q,_,_,.str s.1,rfl,rfl,aX.of hq6,rfl,rfl,_,rfl,?_⟩
  by_cases c:s.1="row"
  ·refine bO (by rw [c];exact decide_eq_true rfl) ?_;obtain ⟨s1',r0⟩:=s;have c:s1'="row":=c;subst c;have ex:expd (("row": Str),r0)=(("row": Str),r0) :: (gM r0).flatMap expd:=(show expd (("row": Str),r0)=iH r0 from if_pos rfl).trans (zV r0);refine ⟨_,rfl,q,_,_,.ref r0.p,rfl,rfl,aX.of hq6,rfl,?_⟩;refine ⟨_,rfl,.inl ⟨rfl,_,bN.of g4⟩,_,rfl,_,rfl,by show 3<=sizeLine;decide,fun t ht=>?_⟩;have s7:=s6.trans (aB ht (.tup [.str "row",.ref r0.p,.int n]));have nt1:l1≠t:=aR g4 ht;have nt2:lw≠t:=aR g3 ht;have g5:aW G1 t (.tup [.str "row",.ref r0.p,.int n]) l1=_:=(aQ nt1).trans g4;have g6:aW G1 t (.tup [.str "row",.ref r0.p,.int n]) lw=_:=(aQ nt2).trans g3;have et:fS (aW G1 t (.tup [.str "row",.ref r0.p,.int n])) (.ref t) (("row": Str),r0):=⟨t,n,rfl,aE⟩
   replace t5:=t5.mono fun _ _ z=>fS.ts (.of (aB ht (.tup [.str "row",.ref r0.p,.int n]))) z
   replace t7:=t7.mono fun _ _ z=>fS.ts (.of (aB ht (.tup [.str "row",.ref r0.p,.int n]))) z
   generalize aW G1 t (.tup [.str "row",.ref r0.p,.int n])=G2 at s7 g5 g6 et t5 t7 ⊢;refine ⟨l1,_,_,rfl,rfl,g5,eY (by omega),?_⟩;have ts8:=TS.lst (ys:=ez++[.ref t]) g5;have s8:=cX (ys:=ez++[.ref t]) s7 hl1;have g7:aW G2 l1 (.lst (ez++[.ref t])) l1=some (.lst (ez++[.ref t])):=aE;have g8:aW G2 l1 (.lst (ez++[.ref t])) lw=some (.lst us):=(aQ ne).trans g6;have t8:=dP.append (t5.mono fun _ _ z=>fS.ts ts8 z) (show dP (fS (aW G2 l1 (.lst (ez++[.ref t])))) [.ref t] [(("row": Str),r0)] from ⟨et.ts ts8,trivial⟩);replace t7:=t7.mono fun _ _ z=>fS.ts ts8 z
   generalize aW G2 l1 (.lst (ez++[.ref t]))=G3 at s8 g7 g8 t8 t7 ⊢;refine ⟨_,rfl,.inl ⟨rfl,_,bN.of g8⟩,_,rfl,r0,rfl,eT.ts (.of s8) r0 hS.1,hS.2,fun qi zi H9 s9 h9 t9=>⟨qi,_,rfl,bN.of h9,?_⟩⟩;have t9r:=oM t9;have zl9:=t9.length;have li:=yL (gM r0);rw [ex,List.length_cons] at lt ls sp;refine vJ (K:=K) (a:=qi) (xs:=zi) (fun i ys σ G=>aZ H9 G/\(∃ v,σ=[v,some (.int n)])/\dP (fS G) ys ((gM r0).reverse.take i))
    (eY (by omega)) ⟨aZ.refl _,⟨_,rfl⟩,trivial⟩ (by rintro i ys σ G ⟨_,_,e⟩;rw [e.length,List.length_take];omega) (by rintro i ys σ G _ ⟨e,_⟩;exact bN.of (e _ _ h9)) ?_ ?_
   ·rintro i v ys σ G hv ⟨s3,⟨v',rfl⟩,tw⟩;obtain ⟨s,hs,q,rfl,hq⟩:=iN t9r hv;refine ⟨_,rfl,q,_,_,.str s.1,rfl,rfl,aX.of (s3 _ _ hq),rfl,_,rfl,q,_,_,.ref s.2.p,rfl,rfl,aX.of (s3 _ _ hq),rfl,_,rfl,by show 3<=sizeLine;decide,fun t ht=>⟨s3.trans (aB ht _),⟨_,rfl⟩,?_⟩⟩;rw [bF hs];exact dP.append (tw.mono fun _ _ z=>fS.ts (.of (aB ht _)) z) ⟨⟨t,_,rfl,aE⟩,trivial⟩
   rintro ys σ G5 ⟨s10,_,tw⟩ l10 hl10;have el:zi.length=(gM r0).reverse.length:=by rw [List.length_reverse];exact zl9
   rw [el,List.take_length] at tw;have s11:=s9.trans (s10.trans (aB hl10 (.lst ys)));have h11:aW G5 l10 (.lst ys) l10=some (.lst ys):=aE;have n10:lw≠l10:=aR ((s9.trans s10) _ _ g8) hl10;replace tw:=tw.mono fun _ _ z=>fS.ts (.of (aB hl10 (.lst ys))) z
   generalize aW G5 l10 (.lst ys)=G6 at s11 h11 tw ⊢;have yl:=tw.length;rw [List.length_reverse] at yl;refine ⟨lw,l10,_,_,rfl,rfl,s11 _ _ g8,h11,Nat.le_of_lt (eY (by omega)),?_⟩;have ts12:=(TS.of s11).trans (TS.lst (ys:=us++ys) (s11 _ _ g8));refine ⟨_,rfl,_,_,rfl,rfl,em++[(("row": Str),r0)],gM r0++eX,_,_,_,_,_,rfl,cX (s8.trans s11) nw,(aQ ne.symm).trans (s11 _ _ g7),t8.mono fun _ _ z=>fS.ts ts12 z,aE,?_,?_,fun s hs'=>?_,?_⟩
   ·rw [List.reverse_append];exact dP.append (t7.mono fun _ _ z=>fS.ts ts12 z) (tw.mono fun _ _ z=>fS.ts (TS.lst (s11 _ _ g8)) z)
   ·rw [<- eq,List.flatMap_cons,ex,List.flatMap_append];simp
   ·rcases List.mem_append.mp hs' with e | e
    ·exact aZ5 hS.1 hS.2 e
    ·exact hs s (List.mem_cons_of_mem _ e)
   ·rw [List.flatMap_cons,ex,List.flatMap_append];simp <;> omega
  ·refine bC (fun z=>c (by have z:=of_decide_eq_true z;injection z)) ?_;have ex:expd s=[s]:=if_neg c;refine ⟨_,rfl,.inl ⟨rfl,_,bN.of g4⟩,_,rfl,l1,_,_,rfl,rfl,g4,eY (by omega),?_⟩;have ts8:=TS.lst (ys:=ez++[.ref q]) g4;refine ⟨em++[s],eX,_,_,_,_,_,rfl,cX s6 hl1,aE,dP.append (t5.mono fun _ _ z=>fS.ts ts8 z) ⟨⟨q,n0,rfl,ts8 _ _ hq6⟩,trivial⟩,(aQ ne).trans g3,t7.mono fun _ _ z=>fS.ts ts8 z,?_,fun s hs'=>hs s (List.mem_cons_of_mem _ hs'),?_⟩
   ·rw [<- eq,List.flatMap_cons,ex];simp
   ·rw [List.flatMap_cons,ex];simp <;> omega
theorem tL:(["word","row","number"]:List Str).Nodup:=by decide +kernel
theorem cD0:aS ["program"] ["program"] (aG aH4):=by refine ⟨rfl,rfl,rfl,?_,rfl,?_,?_⟩<;>decide +kernel
theorem bV3 {f:Addr}{fd:FuncData}(F:dO K "rows_in" "rows_in" aH4 f fd)
  (C_Sts:Cl P w K mg base 3 ["rows"] spSteps "steps_of")
   :
  bQ P w K mg base dS (4) f fd ["program"] spRowsIn:=by
 refine F.ok cD0 (fun vs H Q E h=>?_) (fun cdv A outer s H vs Q E hr h=>?_)
 ·obtain ⟨p,xs,rs,rfl,_⟩:=h;rfl
 obtain ⟨p,xs,rs,rfl,P0,k⟩:=h;refine ⟨_,(aH (aM (dG ["word","row","number"] [none,none,none] (dC (bR C_Sts hr (aA (bI aI (pv 0) aD) aC))) (fun _ _ _ _=>(cG4 K (n:=3) rfl (bJ (aU (i:=0) (tL) rfl (Or.inl rfl)) (bJ (aU (i:=1) (tL) rfl (Or.inl rfl)) (bJ (aU (i:=2) (tL) rfl (Or.inl rfl)) dY))))) (fun _ _ _ _=>(pB (aV cR (pv 0) aJ (bB _)))) (fun _ _ _ _=>(pv 1))))),?_⟩;obtain ⟨v0,pr,hp,hpr⟩:=P0.ex;have tl:=gY rs;have c0:=P0.cnt;refine ⟨_,rfl,p,_,_,.ref pr,rfl,rfl,aX.of hp,rfl,pr,rs,rfl,hpr,P0.rows,Nat.le_trans P0.cnt (by decide),fun r zs H1 s1 _ h1 t1=>⟨r,rfl,⟨_,bN.of h1⟩,?_⟩⟩;have zl:=t1.length;refine eO (K:=K) (a:=r) (xs:=zs) (fun i ys σ G=>G=H1/\(∃ v1 v2 v3,σ=[v1,v2,v3])/\ys=cI ((((iP rs).take i).filter fun s:Stp=>decide (s.1="row")).map (·.2)))
  (eY (by omega)) ⟨rfl,⟨_,_,_,rfl⟩,rfl⟩ (fun i ys σ G ⟨_,_,e⟩=>by
   rw [e,bW,List.length_map];exact Nat.le_trans (List.length_filter_le _ _) (by rw [List.length_take];omega)) (by rintro i ys σ G _ ⟨e,_⟩;rw [e];exact bN.of h1) ?_ ?_
 ·rintro i v ys σ G hv ⟨rfl,⟨v1,v2,v3,rfl⟩,rfl⟩;obtain ⟨s,hs,q,n,rfl,hq⟩:=iN t1 hv;refine ⟨q,_,rfl,aX.of hq,rfl,_,_,rfl,_,_,rfl,_,_,rfl,rfl,?_⟩;refine ⟨_,rfl,rfl,_,rfl,?_⟩;rw [bF hs,List.filter_append,List.map_append,fX]
  by_cases c:s.1="row"
  ·refine bO (by rw [c];exact decide_eq_true rfl) ⟨_,rfl,rfl,⟨_,_,_,rfl⟩,?_⟩;rw [List.filter_cons_of_pos (p:=fun s:Stp=>decide (s.1="row")) (decide_eq_true c)];rfl
  ·refine bC (fun z=>c (by have z:=of_decide_eq_true z;injection z)) ⟨rfl,⟨_,_,_,rfl⟩,?_⟩;rw [List.filter_cons_of_neg (p:=fun s:Stp=>decide (s.1="row")) (by simpa using c)];simp [cI]
 ·rintro ys σ G ⟨rfl,_,rfl⟩ l hl;rw [zl,List.take_length,hJ];exact k l _ (s1.trans (aB hl _)) (s1.free hl) aE
theorem aV9:aS ["rows","behind","row"] ["rows"] (aG aO8):=by refine ⟨rfl,rfl,rfl,?_,rfl,?_,?_⟩<;>decide +kernel
theorem bL4 {f:Addr}{fd:FuncData}(F:dO K "names_behind" "names_behind" aO8 f fd)
  (C_Ask:Cl P w K mg base 3 ["row"] spAsked "names_asked")
   :
  bQ P w K mg base dS (4) f fd ["rows"] spNB:=by
 refine F.ok aV9 (fun vs H Q E h=>?_) (fun cdv A outer s H vs Q E hr h=>?_)
 ·obtain ⟨lr,xs,fl,rfl,_⟩:=h;rfl
 obtain ⟨lr,xs,fl,rfl,hl,hR,ok,hn,k⟩:=h;have hr1:eF 1 _:=hr.mono (by decide);refine ⟨_,(aF (aK (i:=1) aV9.nd rfl (Or.inl rfl) vC)
  (aF (dN PassesOwn.never rfl (dC (pv 0)) (aU (i:=2) aV9.nd rfl (Or.inl rfl))
  (aH (bT (aV cR (bI aI (pv 2) aD) aJ (bB _)) (aH (dR (fY PySem.F.plainAttrs_list PySem.F.slot_list_extend PySem.F.type_list_extend fT (bG6 (pv 1) (bI aI (pv 2) aD) (bS aC) ⟨rfl,rfl,rfl,rfl⟩) (aA (bR C_Ask hr (aA (pv 2) aC)) aC)))) bA)))
  (aH (aM (pv 1))))),?_⟩
 refine fun d hd=>?_
 have b0:BI H (aW H d (.dK [])) d [] [] 0:=⟨aB hd _,hd,aE,Nat.le_refl _,fun x=> .inl ⟨rfl,rfl⟩,fun x y l h=>by cases h⟩
 generalize aW H d (.dK [])=H1 at b0 ⊢;refine ⟨_,rfl,lr,rfl,⟨_,bN.of (b0.sm _ _ hl)⟩,eU (K:=K) (a:=lr) (xs:=cI fl) (fun i σ G=>∃ (kvs:List (Key×V)) (v2:Option V),σ=[some (.ref lr),some (.ref d),v2]/\BI H G d kvs (fl.take i) i)
  ⟨[],_,rfl,b0⟩ (by rintro i σ G _ ⟨_,_,_,e⟩;exact bN.of (e.sm _ _ hl)) ?_ ?_⟩
 ·rintro D' i v σ G hv ⟨kvs,v2,rfl,b1⟩;obtain ⟨r,rfl,hr0⟩:=jH hv;have mr:=List.mem_of_getElem? hr0;have hr1:=eT.ts (.of b1.sm) r (hR.mem r mr);have bi:=b1.ln;have il:=(List.getElem?_eq_some_iff.mp hr0).1;refine ⟨_,rfl,r.p,_,_,.str r.w,rfl,rfl,aX.of hr1.at,jG,rfl,_,rfl,?_⟩
  by_cases c:r.w="let"
  ·refine bO (by rw [c];exact decide_eq_true rfl) ?_;obtain ⟨p,x,t,rfl⟩:=aS0 hr1 c;have okr:=ok _ mr;refine ⟨_,rfl,d,rfl,bK6 b1.dc,_,rfl,p,_,_,.str x,rfl,rfl,aX.of hr1.1,at1,Nat.zero_le _,fun l0 hl0=>⟨kvs,Sum.inr x,(aB hl0 _) _ _ b1.dc,rfl,sA (by omega),fun v hv=>?_,fun hv=>?_⟩⟩
   ·have b2:=b1.same (aB hl0 (.lst []));have s2:=aB hl0 (.lst []);generalize aW G l0 (.lst [])=G2 at b2 s2 ⊢;obtain ⟨l,rfl,hl2⟩:∃ l,v= .ref l/\G2 l=some (.lst (((fl.take i).flatMap (Rw.lets x)).map V.str)):=by
     rcases b2.vl x with ⟨h,_⟩ | ⟨l,h1,h2,_⟩
     ·rw [h] at hv;cases hv
     ·rw [h1] at hv;cases hv;exact ⟨l,rfl,h2⟩
    refine ⟨.inl ⟨rfl,_,bN.of hl2⟩,_,rfl,.lt p x t,xs,rfl,eT.ts (.of s2) _ hr1,okr,fun q H3 s3 h3=>?_⟩;have b3:=b2.same s3;refine ⟨l,q,_,_,rfl,rfl,s3 _ _ hl2,h3,aD8 (p:=p) ok hn okr,kvs,_,rfl,?_⟩;rw [bF hr0];exact (b3.more hv).up (Nat.le_succ _)
   ·have b2:=b1.new hl0 hv;have ts2:TS G (aW (aW G l0 (.lst [])) d (.dK (dB kvs (Sum.inr x:Key) (.ref l0)))):=fun a ys h=>by
     rw [aQ (fN h b1.dc (by intro z;cases z)),aQ (aR h hl0)];exact h
    have hv2:cM (dB kvs (Sum.inr x:Key) (.ref l0)) (Sum.inr x:Key)=some (.ref l0):=by rw [aT,if_pos rfl]
    generalize aW (aW G l0 (.lst [])) d (.dK (dB kvs (Sum.inr x:Key) (.ref l0)))=G2 at b2 ts2 ⊢;generalize dB kvs (Sum.inr x:Key) (.ref l0)=kvs2 at b2 hv2 ⊢;have hl2:G2 l0=some (.lst (((fl.take i).flatMap (Rw.lets x)).map V.str)):=by
     rcases b2.vl x with ⟨h,_⟩ | ⟨l,h1,h2,_⟩
     ·rw [h] at hv2;cases hv2
     ·rw [h1] at hv2;cases hv2;exact h2
    refine ⟨.inl ⟨rfl,_,bN.of hl2⟩,_,rfl,.lt p x t,xs,rfl,eT.ts ts2 _ hr1,okr,fun q H3 s3 h3=>?_⟩;have b3:=(b2.same s3).more (p:=p) (t:=t) hv2;exact ⟨l0,q,_,_,rfl,rfl,s3 _ _ hl2,h3,aD8 (p:=p) ok hn okr,_,_,rfl,by rw [bF hr0];exact b3⟩
  ·refine bC (fun z=>c (by have z:=of_decide_eq_true z;injection z)) ?_;refine ⟨kvs,_,rfl,?_⟩;rw [bF hr0];exact b1.skip (aV6 c)
 ·rintro σ G ⟨kvs,v2,rfl,b1⟩;rw [bW,List.take_length] at b1;exact ⟨_,rfl,k d G b1.sm hd b1.bh⟩
theorem cE1:aS ["row","names"] ["row","names"] (aG aK8):=by refine ⟨rfl,rfl,rfl,?_,rfl,?_,?_⟩<;>decide +kernel
theorem bW7 {f:Addr}{fd:FuncData}(F:dO K "is_idle" "is_idle" aK8 f fd)
  (C_SeN:Cl P w K mg base 1 ["row"] spSetsN "sets_name")
   :
  bQ P w K mg base dS (2) f fd ["row","names"] spIsI:=by
 refine F.ok cE1 (fun vs H Q E h=>?_) (fun cdv A outer s H vs Q E hr h=>?_)
 ·obtain ⟨r,np,ss,rfl,_⟩:=h;rfl
 obtain ⟨r,np,ss,rfl,hr0,hn,k⟩:=h;refine ⟨_,(aH (aM (lA (bR C_SeN hr (aA (pv 0) aC)) (mS (dX gP (bI aI (pv 0) aD) (pv 1) rfl))))),?_⟩;refine ⟨_,rfl,r,rfl,hr0,_,rfl,?_⟩
 cases e:r.sets with
 | none =>
  rw [wV e] at k;exact bC (by decide) k
 | some x =>
  rw [vA e] at k;obtain ⟨vs,hv⟩:=aF1 hr0 e;refine bO rfl ?_;refine ⟨_,rfl,r.p,_,_,.str x,rfl,rfl,aX.of hv,at1,_,rfl,np,_,rfl,.inr (aX.of hn),rfl,eA _,?_⟩;rw [lI];exact k
theorem pP:aS ["program","rows","behind","found","waiting","row","name"] ["program"] (aG aN9):=by refine ⟨rfl,rfl,rfl,?_,rfl,?_,?_⟩<;>decide +kernel
theorem bW4 {f:Addr}{fd:FuncData}(F:dO K "needed" "needed" aN9 f fd)
  (C_RwI:Cl P w K mg base 4 ["program"] spRowsIn "rows_in")
  (C_NmB:Cl P w K mg base 4 ["rows"] spNB "names_behind")
  (C_Ask:Cl P w K mg base 3 ["row"] spAsked "names_asked")
  (m_tuple:mg "tuple"=none) (m_sorted:mg "sorted"=none) :
  bQ P w K mg base dS (5) f fd ["program"] spNeeded:=by
 refine F.ok pP (fun vs H Q E h=>?_) (fun cdv A outer s H vs Q E hr h=>?_)
 ·obtain ⟨p,xs,rs,rfl,_⟩:=h;rfl
 obtain ⟨p,xs,rs,rfl,P0,k⟩:=h;have hu:=kK hr;have hr1:eF 1 _:=hr.mono (by decide);refine ⟨_,(aF (aK (i:=1) pP.nd rfl (Or.inl rfl) (bR C_RwI hr (aA (pv 0) aC)))
  (aF (aK (i:=2) pP.nd rfl (Or.inl rfl) (bR C_NmB hr (aA (pv 1) aC)))
  (aF (aK (i:=3) pP.nd rfl (Or.inl rfl) vC)
  (aF (aK (i:=4) pP.nd rfl (Or.inl rfl) (bS aC))
  (aF (dN PassesOwn.never rfl (dC (pv 1)) (aU (i:=5) pP.nd rfl (Or.inl rfl))
  (aH (bT (aV cH (bI aI (pv 5) aD) (aO (aA aJ (aA aJ aC))) rfl) (aH (dR (fY PySem.F.plainAttrs_list PySem.F.slot_list_extend PySem.F.type_list_extend fT (pv 4) (aA (bR C_Ask hr (aA (pv 5) aC)) aC)))) bA)))
  (aF (fK PassesOwn.never (kB (pv 4) (fun _=>rfl))
  (aF (aK (i:=6) pP.nd rfl (Or.inl rfl) (qP PySem.F.plainAttrs_list PySem.F.slot_list_pop PySem.F.type_list_pop pI (pv 4)))
  (aH (bT (bP4 (aG1 hu (pv 6) (pv 3))) (aF (dW hu (pv 3) (pv 6) pE rfl)
  (aH (dR (fY PySem.F.plainAttrs_list PySem.F.slot_list_extend PySem.F.type_list_extend fT (pv 4) (aA (xH hu (pv 2) (pv 6) (bS aC) ⟨rfl,rfl,rfl,rfl⟩) aC))))) bA))))
  (aH (aM (bY dD (by rfl) m_tuple PyProof.Rows.boot_tuple (aA (bV (xC hr1) (by rfl) m_sorted PyProof.Rows.boot_sorted (aA (pv 3) aC)) aC)))))))))),?_⟩
 have f13:=P0.fl;have okf:=P0.okf;refine ⟨_,rfl,p,xs,rs,rfl,P0,fun r1 H1 s1 n1 h1=>?_⟩;have rH:=bL.ts (.of s1) _ (bL.flat rs P0.rows);generalize hfl:bK rs=fl at f13 okf h1 rH;refine ⟨_,rfl,r1,xs,fl,rfl,h1,rH,okf,f13,fun d2 H2 s2 n2 b2=>?_⟩;refine fun df hdf=>?_
 have s3:=aB hdf (.dK []);have h3:aW H2 df (.dK []) df=some (.dK (vQ [])):=aE;generalize aW H2 df (.dK [])=H3 at s3 h3 ⊢;refine ⟨Nat.zero_le _,fun lw hlw=>?_⟩;obtain ⟨H4,e0,s4,h4⟩:=gJ hlw (.lst []);rw [e0];clear e0;have n4:H2 lw=none:=s3.free hlw;refine ⟨_,rfl,r1,rfl,⟨_,bN.of ((s2.trans (s3.trans s4)) _ _ h1)⟩,eU (K:=K) (a:=r1) (xs:=cI fl) (fun i σ G=>∃ (v5 v6:Option V),σ=[some (.ref p),some (.ref r1),some (.ref d2),some (.ref df),some (.ref lw),v5,v6]/\aZ H3 G/\G lw=some (.lst (((fl.take i).flatMap Rw.told).map V.str)))
  ⟨_,_,rfl,s4,h4⟩ (by rintro i σ G _ ⟨_,_,_,e,_⟩;exact bN.of ((s2.trans (s3.trans e)) _ _ h1)) ?_ ?_⟩
 ·rintro D' i v σ G hv ⟨v5,v6,rfl,s5,h5⟩;obtain ⟨r,rfl,hr0⟩:=jH hv;have mr:=List.mem_of_getElem? hr0;have il:=(List.getElem?_eq_some_iff.mp hr0).1;have hr1:=eT.ts (.of (s2.trans (s3.trans s5))) r (rH.mem r mr);have tl:=kM (fl:=fl.take i) (fun r hr=>okf r (List.mem_of_mem_take hr));have al:=(okf r mr).asked.1;rw [List.length_take] at tl;refine ⟨_,rfl,r.p,_,_,.str r.w,rfl,rfl,aX.of hr1.at,jG,bM,fun t2 ht2=>?_⟩;have s6:=aB ht2 (.tup [.str "tell",.str "when"]);refine ⟨t2,[.str "tell",.str "when"],rfl,.inr (aX.of aE),rfl,by decide,_,rfl,?_⟩;generalize aW G t2 (.tup [.str "tell",.str "when"])=G6 at s6 ⊢;have ei:lC (V.str r.w) [.str "tell",.str "when"]=decide (r.w∈(["tell","when"]:List Str)):=cJ _ ["tell","when"];rw [aD3 hr0]
  by_cases c:r.w∈(["tell","when"]:List Str)
  ·refine bO (ei.trans (decide_eq_true c)) ?_;refine ⟨_,rfl,.inl ⟨rfl,_,bN.of (s6 _ _ h5)⟩,_,rfl,r,xs,rfl,eT.ts (.of s6) r hr1,okf r mr,fun q H7 s7 h7=>?_⟩;refine ⟨lw,q,_,_,rfl,rfl,(s6.trans s7) _ _ h5,h7,Nat.le_of_lt (sA (by rw [List.length_map,List.length_map];omega)),_,_,rfl,cX (s5.trans (s6.trans s7)) hlw,?_⟩;rw [aE,bA7 hr1 c,List.map_append]
  ·refine bC (fun z=>c (of_decide_eq_true (ei.symm.trans z))) ?_;refine ⟨_,_,rfl,s5.trans s6,?_⟩;rw [wO c,List.append_nil];exact s6 _ _ h5
 rintro σ G ⟨v5,v6,rfl,s5,h5⟩;rw [bW,List.take_length] at h5;have tl:=kM okf;have pl:=aP7 okf [] xs;have xl:=P0.xl;have pl2:xs.length * (7 * fl.length)<=12 * (7 * fl.length):=Nat.mul_le_mul_right _ xl;have b5:aZ H2 G:=s3.trans s5;have h35:=s5 _ _ h3;have ndl:lw≠df:=(aR h3 hlw).symm;refine ⟨fun m σ G=>∃ (fs ws:List Str) (v6:Option V),σ=[some (.ref p),some (.ref r1),some (.ref d2),some (.ref df),some (.ref lw),v5,v6]/\aZ H2 G/\G df=some (.dK (vQ fs))/\G lw=some (.lst (ws.map V.str))/\WL fl fs ws/\m=ws.length+pot fl xs fs/\m<=500000,
  ⟨_,[],_,v6,rfl,b5,h35,h5,WL.init fl,rfl,by omega⟩,?_⟩
 clear h5 h35 b5 s5 s4 h4;rintro m σ G ⟨fs,ws,v6,rfl,s5,g1,g2,wl,rfl,mb⟩;refine ⟨_,rfl,_,.inl ⟨_,bN.of g2,rfl⟩,?_⟩;have fx:∀ x∈fs,x∈xs:=fun x hx=>oN okf (wl.need x (.inl hx))
 have fsl:=nS wl.nd fx;rcases List.eq_nil_or_concat ws with rfl | ⟨ws,x,rfl⟩
 ·refine bC (by simp) ?_;refine ⟨_,rfl,df,_,fs,rfl,g1,bF6 fs,by rw [aV5];omega,fun ts' pm st l hl=>⟨l,_,rfl,.inl ⟨bN.of aE,fun t ht=>?_⟩⟩⟩;refine k t ts' _ (s1.trans (s2.trans (s5.trans ((aB hl _).trans (aB ht _))))) aE ⟨pm.symm.nodup wl.nd,st,fun x=>?_⟩;rw [pm.mem_iff,hfl];exact wl.done x
 ·rw [List.concat_eq_append] at *;refine bO (by simp) ?_;rw [List.map_append,List.map_cons,List.map_nil] at g2;rw [List.length_append,List.length_cons,List.length_nil] at mb;refine ⟨fun σ' G'=>∃ (fs' ws':List Str) (v6:Option V),σ'=[some (.ref p),some (.ref r1),some (.ref d2),some (.ref df),some (.ref lw),v5,v6]/\aZ H2 G'/\G' df=some (.dK (vQ fs'))/\G' lw=some (.lst (ws'.map V.str))/\WL fl fs' ws'/\ws'.length+pot fl xs fs' + 1<=ws.length+1+pot fl xs fs,
   fun σ' G' ⟨fs',ws',v6',e1,e2,e3,e4,e5,e6⟩=>⟨_,by rw [List.length_append,List.length_cons,List.length_nil];omega,fs',ws',v6',e1,e2,e3,e4,e5,rfl,by omega⟩,?_⟩
  refine ⟨_,rfl,.inl ⟨rfl,_,bN.of g2⟩,lw,_,V.str x,rfl,rfl,g2,by simp,?_⟩;rw [List.dropLast_concat];have s6:=cX (ys:=ws.map V.str) s5 n4;have g3:aW G lw (.lst (ws.map V.str)) lw=some (.lst (ws.map V.str)):=aE;have g4:aW G lw (.lst (ws.map V.str)) df=some (.dK (vQ fs)):=(aQ ndl.symm).trans g1;generalize aW G lw (.lst (ws.map V.str))=G1 at s6 g3 g4 ⊢;refine ⟨_,rfl,_,rfl,df,_,rfl,eE.k (k:=Sum.inr x) g4,_,rfl,?_⟩;rw [yG]
  by_cases c:x∈fs
  ·rw [if_pos c];refine bC (by decide) ?_;exact ⟨fs,ws,_,rfl,s6,g4,g3,wl.skip c,by omega⟩
  ·rw [if_neg c];refine bO (by decide) ?_;have ps:=vV fl c (oN okf (wl.need x (.inr (by simp))));have dp:=jI.k (k:=(Sum.inr x:Key)) (v:=V.bl true) g4 (bD (by rw [aV5];omega));rw [bM9 c] at dp;refine ⟨_,rfl,_,rfl,df,_,rfl,dp,?_⟩;have s7:aZ H2 (aW G1 df (.dK (vQ (fs++[x])))):=fun a o e=>(aQ (aR e hdf)).trans (s6 a o e)
   have g5:aW G1 df (.dK (vQ (fs++[x]))) df=some (.dK (vQ (fs++[x]))):=aE;have g6:aW G1 df (.dK (vQ (fs++[x]))) lw=some (.lst (ws.map V.str)):=(aQ ndl).trans g3;generalize aW G1 df (.dK (vQ (fs++[x])))=G2 at s7 g5 g6 ⊢;obtain ⟨kvs,hb,hv⟩:=b2.same s7;refine ⟨_,rfl,.inl ⟨rfl,_,bN.of g6⟩,_,rfl,d2,rfl,bK6 hb,_,rfl,Nat.zero_le _,fun l8 hl8=>?_⟩;obtain ⟨G3,e0,s8,g8⟩:=gJ hl8 (.lst []);rw [e0];clear e0;refine ⟨_,eE.k (k:=Sum.inr x) (s8 _ _ hb),?_⟩;have ll:=mM okf x;obtain ⟨l9,e9,h9⟩:∃ l9,(cM kvs (Sum.inr x:Key)).getD (.ref l8)= .ref l9/\G3 l9=some (.lst ((fl.flatMap (Rw.lets x)).map V.str)):=by
    rcases hv x with ⟨e,e0⟩ | ⟨l,e,e0⟩
    ·rw [e,e0];exact ⟨l8,rfl,g8⟩
    ·rw [e];exact ⟨l,rfl,s8 _ _ e0⟩
   rw [e9];refine ⟨lw,l9,_,_,rfl,rfl,s8 _ _ g6,h9,Nat.le_of_lt (sA (by rw [List.length_map,List.length_map];omega)),fs++[x],ws++fl.flatMap (Rw.lets x),_,rfl,cX (s7.trans s8) n4,(aQ ndl.symm).trans (s8 _ _ g5),by rw [aE,List.map_append],wl.take c,by rw [List.length_append];omega⟩
theorem bH9:(["_law_j","_law_letters","_law_deal_here"]:List Str).Nodup:=by decide +kernel
theorem kS:aS ["_law_deal_here","_law_many","_law_letters","_law_words","_law_found","_law_k","_law_size","_law_word","_law_spare"] ["_law_deal_here","_law_many"] (aG aN0):=by refine ⟨rfl,rfl,rfl,?_,rfl,?_,?_⟩<;>decide +kernel
theorem bU0 {f:Addr}{fd:FuncData}(F:dO K "_law_names" "_law_names" aN0 f fd)
  (C_Draw:Cl P w K mg base 1 ["_law_deal_here","_law_many"] spDraw "_law_draw")
  (m_range:mg "range"=none) :
  bQ P w K mg base dS (2) f fd ["_law_deal_here","_law_many"] spNames:=by
 refine F.ok kS (fun vs H Q E h=>?_) (fun cdv A outer s H vs Q E hr h=>?_)
 ·obtain ⟨d,l,m,rfl,_⟩:=h;rfl
 obtain ⟨d,l,m,rfl,D,m0,m9,k⟩:=h;refine ⟨_,(@aF _ _ _ _ _ (aK (i:=2) kS.nd rfl (Or.inr rfl) aJ)
  (@aF _ _ _ _ _ (@aK _ _ 3 _ _ _ _ kS.nd rfl (Or.inl rfl) (@bS _ _ _ _ (@aA _ _ _ _ _ aJ (@aA _ _ _ _ _ aJ (@aA _ _ _ _ _ aJ (@aA _ _ _ _ _ aJ (@aA _ _ _ _ _ aJ (@aA _ _ _ _ _ aJ (@aA _ _ _ _ _ aJ (@aA _ _ _ _ _ aJ (@aA _ _ _ _ _ aJ (@aA _ _ _ _ _ aJ (@aA _ _ _ _ _ aJ (@aA _ _ _ _ _ aJ aC rfl) rfl) rfl) rfl) rfl) rfl) rfl) rfl) rfl) rfl) rfl) rfl)) rfl (Or.inl rfl))
  (@aF _ _ _ _ _ (aK (i:=4) kS.nd rfl (Or.inl rfl) (bS aC))
  (@aF _ _ _ _ _ (dN PassesOwn.never rfl (cY (by rfl) m_range (aA (pv 1) aC)) (aU (i:=5) kS.nd rfl (Or.inl rfl))
  (aF (aK (i:=6) kS.nd rfl (Or.inl rfl) (aL cC aD (bR C_Draw hr (aA (pv 0) (aA (bI bZ (bS (aA aD (aA aD aC))) (bR C_Draw hr (aA (pv 0) (aA aD aC)))) aC)))))
  (aF (aK (i:=7) kS.nd rfl (Or.inl rfl) (fY PySem.F.plainAttrs_str PySem.F.slot_str_join PySem.F.type_str_join bD5 aJ (aA (dG ["_law_j","_law_letters","_law_deal_here"] [none,some 2,some 0] (cY (by rfl) m_range (aA (pv 6) aC)) (fun _ _ _ _=>(aU (i:=0) (bH9) rfl (Or.inl rfl))) (fun _ _ _ _=>fG) (fun _ _ _ _=>(bI tU (pv 1) (bR C_Draw hr (aA (pv 2) (aA aD aC)))))) aC)))
  (aF (aK (i:=8) kS.nd rfl (Or.inl rfl) aD)
  (aF (fK PassesOwn.never (iO (PW.pt (aD5 (aV cH (pv 7) (pv 4) rfl) (uP (aV cH (pv 7) (pv 3) rfl)))))
  (aF (aK (i:=7) kS.nd rfl (Or.inl rfl) (aL oQ (aL oQ (eZ bT1 (pv 7) gQ (fL aD)) (bI tU (pv 2) (aL fO (aL jZ (pv 8) aD) aD))) (bI tU (pv 2) (aL fO (pv 8) aD))))
  (aH (aK (i:=8) kS.nd rfl (Or.inl rfl) (aL cC (pv 8) aD)))))
  (aH (dR (fY PySem.F.plainAttrs_list PySem.F.slot_list_append PySem.F.type_list_append eP (pv 4) (aA (pv 7) aC)))))))))
  (@aH _ _ _ (aM (pv 4))))))),?_⟩
 refine ⟨by show 12<=sizeLine;decide,fun lw hlw=>?_⟩;have nwl:=(cQ D hlw).2;have s1:=aB hlw (.lst [.str "kinds",.str "ladder",.str "flat",.str "choose",.str "first",.str "let",.str "tell",.str "when",.str "else",.str "times",.str "end",.str "of"]);have h1:aW H lw (.lst [.str "kinds",.str "ladder",.str "flat",.str "choose",.str "first",.str "let",.str "tell",.str "when",.str "else",.str "times",.str "end",.str "of"]) lw=some (.lst (mZ.map V.str)):=aE;generalize aW H lw (.lst [.str "kinds",.str "ladder",.str "flat",.str "choose",.str "first",.str "let",.str "tell",.str "when",.str "else",.str "times",.str "end",.str "of"])=H1 at s1 h1 ⊢;have D1:=D.same s1;refine ⟨Nat.zero_le _,fun lf hlf=>?_⟩;have nf:=s1.free hlf;have nwf:lw≠lf:=aR h1 hlf;have L2:gK (aW H1 lf (.lst [])) d l lf []:=gK.new D1 hlf;have o2:eM d l H (aW H1 lf (.lst [])):=eM.of (s1.trans (aB hlf (.lst [])));have h2:=(aB hlf (.lst [])) _ _ h1
 generalize aW H1 lf (.lst [])=H2 at L2 o2 h2 ⊢;refine ⟨_,rfl,m,rfl,by omega,by omega,jK (n:=m.toNat) (fun i σ G=>∃ (ws:List Str) (v5 v6 v7 v8:Option V),σ=[some (.ref d),some (.int m),some (.str "abcdefghijklmnopqrstuvwxyz"),some (.ref lw),some (.ref lf),v5,v6,v7,v8]/\gK G d l lf (ws.map V.str)/\G lw=some (.lst (mZ.map V.str))/\eM d l H G/\ws.length=i/\∀ x∈ws,Lt x)
  ⟨[],_,_,_,_,rfl,L2,h2,o2,rfl,fun _ z=>nomatch z⟩ ?_ ?_⟩
 ·rintro D' i σ G hi ⟨ws,v5,v6,v7,v8,rfl,L3,h3,o3,hw,wlt⟩;refine ⟨_,rfl,bM,fun l0 hl0=>?_⟩;have nl:=(cQ L3.deal hl0).2;obtain ⟨H4,e0,s4,h4⟩:=gJ hl0 (.lst [.int 2,.int 8]);rw [e0];clear e0;have D4:=L3.deal.same s4;refine ⟨_,rfl,d,l,2,rfl,D4,by decide,by decide,fun x H5 x0 x1 D5 o5=>?_⟩;obtain ⟨w2,hw2,hc2⟩:=aC3 (x:=2) (y:=8) x0 x1;refine ⟨l0,_,_,.int w2,rfl,rfl,bN.of (bE D4 h4 nl o5),hw2,d,l,w2,rfl,D5,by omega,by omega,fun y H6 y0 y1 D6 o6=>⟨_,_,rfl,rfl,?_⟩⟩;have o46:=(eM.of (d:=d) (l:=l) s4).trans (o5.trans o6);have L6:gK H6 d l lf (ws.map V.str):=L3.out D6 o46;have h6:=bE L3.deal h3 nwl o46;have o6':=o3.trans o46;clear s4 h4 D4 D5 o5 o6 o46 hw2 L3 h3 o3;refine ⟨rfl,_,rfl,1+y,rfl,by omega,by omega,?_⟩;refine fR (n:=(1+y).toNat) (fun i ys σ G=>gK G d l lf (ws.map V.str)/\G lw=some (.lst (mZ.map V.str))/\eM d l H G/\(∃ v,σ=[v,some (.str "abcdefghijklmnopqrstuvwxyz"),some (.ref d)])/\∃ zs:List Str,ys=zs.map V.str/\zs.length=i/\(∀ z∈zs,z.length=1)/\∀ z∈zs,Lt z) (bD (by omega)) ⟨L6,h6,o6',⟨_,rfl⟩,[],rfl,rfl,(fun _ z=>absurd z List.not_mem_nil),fun _ z=>absurd z List.not_mem_nil⟩
   (by rintro i ys σ G ⟨_,_,_,_,zs,e,e2,_⟩;rw [e,List.length_map];omega) ?_ ?_
  ·rintro i ys σ G hi ⟨L7,h7,o7,⟨v,rfl⟩,zs,rfl,hl,h1,zlt⟩;refine ⟨_,rfl,_,rfl,d,l,26,rfl,L7.deal,by decide,by decide,fun r H3 r0 r1 D3 o3=>?_⟩;obtain ⟨c,hc⟩:=bR4 (z:="abcdefghijklmnopqrstuvwxyz") r0 r1;refine ⟨_,r,c,rfl,rfl,by decide,hc,L7.out D3 o3,bE L7.deal h7 nwl o3,o7.trans o3,⟨_,rfl⟩,zs++[⟨#[c]⟩],by rw [List.map_append];rfl,by rw [List.length_append,hl];rfl,fun z hz=>?_,fun z hz=>?_⟩
   ·rcases List.mem_append.mp hz with q | q
    ·exact h1 z q
    ·have e:z=⟨#[c]⟩:=by simpa using q
     rw [e];rfl
   ·rcases List.mem_append.mp hz with q | q
    ·exact zlt z q
    ·have e:z=⟨#[c]⟩:=by simpa using q
     rw [e];exact Lt.one (aG6 hc)
  rintro ys σ H7 ⟨L7,h7,o7,_,zs,rfl,hl,h1,zlt⟩ p hp;have hsm:=vZ h1;refine ⟨_,p,zs,rfl,rfl,bN.of aE,by rw [hsm];show zs.length+zs.length * 0<=_;omega,?_⟩;have hj:=aQ3 "" zs;rw [hsm] at hj;have e0:("": Str).length=0:=rfl;rw [e0] at hj;have L8:=L7.same (aB hp (.lst (zs.map V.str)));have h8:=(aB hp (.lst (zs.map V.str))) _ _ h7;have o8:=o7.trans (eM.of (d:=d) (l:=l) (aB hp (.lst (zs.map V.str))));generalize aW H7 p (.lst (zs.map V.str))=H8 at L8 h8 o8 ⊢;have crl:=bI0 zlt;generalize Txt.join "" zs=cr at hj crl ⊢;have c6:cr.length<=8:=by omega
  have hL:(ws++mZ).length<=23:=by rw [List.length_append,show mZ.length=12 from rfl];omega
  refine ⟨fun m' σ' G'=>G'=H8/\∃ (wd:Str) (s:Nat),σ'=[some (.ref d),some (.int m),some (.str "abcdefghijklmnopqrstuvwxyz"),some (.ref lw),some (.ref lf),some (.int (0+(i:Int))),some (.int (1+y)),some (.str wd),some (.int (s:Int))]/\wd.length<=8+2 * s/\Lt wd/\(s=0\/lc wd+1=97+s)/\m'=mw (ws++mZ) s/\s+mw (ws++mZ) s<=24,
   ⟨_,rfl,cr,0,rfl,c6,crl,.inl rfl,rfl,Nat.le_refl _⟩,?_⟩
  rintro m' σ' G' ⟨rfl,wd,s,rfl,hwd,wdl,hs,rfl,hm⟩;refine ⟨fun b G1=>G1=G'/\(b=true->wd∈ws++mZ),?_,?_⟩
  ·refine ⟨_,rfl,_,rfl,lf,_,rfl,.inl (bN.of L8.lst),rfl,eA _,_,rfl,?_⟩;have ei:lC (V.str wd) (ws.map V.str)=decide (wd∈ws):=cJ _ _
   by_cases c:wd∈ws
   ·exact bO (ei.trans (decide_eq_true c)) ⟨rfl,fun _=>List.mem_append_left _ c⟩
   ·refine bC (fun z=>c (of_decide_eq_true (ei.symm.trans z))) ⟨_,rfl,_,rfl,lw,_,rfl,.inl (bN.of h8),rfl,eA _,_,rfl,rfl,fun z=>?_⟩;exact List.mem_append_right _ (of_decide_eq_true ((cJ _ _).symm.trans z))
  rintro b G1 ⟨rfl,hb⟩
  cases b with
  | true =>
   refine bO rfl ?_;have mem:=hb rfl;have st:=bE4 hL mem hs;have s25:s < 26:=by omega
   have q26:(0:Int) < 26:=by decide
   refine ⟨fun σ2 G2=>G2=G1/\∃ (wd:Str),σ2=[some (.ref d),some (.int m),some (.str "abcdefghijklmnopqrstuvwxyz"),some (.ref lw),some (.ref lf),some (.int (0+(i:Int))),some (.int (1+y)),some (.str wd),some (.int ((s:Int)+1))]/\wd.length<=8+2 * (s+1)/\Lt wd/\lc wd+1=97+(s+1),?_,?_⟩
   ·rintro σ2 G2 ⟨rfl,wd2,rfl,a1,a3,a2⟩;exact ⟨_,by omega,rfl,wd2,s+1,rfl,a1,a3,.inr a2,rfl,by omega⟩
   have t1:=Txt.slice_le wd none (some 6);have z1:(Txt.slice wd none (some 6)).length+(⟨#[97]⟩:Str).length<=9+2 * s:=by show _+1<=9+2 * s;omega
   have z2:(Txt.slice wd none (some 6)++(⟨#[97]⟩:Str)).length<=9+2 * s:=by rw [strLen_append];exact z1
   have z3:(Txt.slice wd none (some 6)++(⟨#[97]⟩:Str)).length+(⟨#[97+s]⟩:Str).length<=8+2 * (s+1):=by show _+1<=8+2 * (s+1);omega
   refine ⟨_,rfl,6,rfl,wd,rfl,Nat.le_of_lt (bD (by omega)),_,rfl,_,rfl,_,_,rfl,rfl,⟨by decide,by decide⟩,_,_,rfl,rfl,q26,_,_,97,rfl,rfl,by decide,aW7 s25,_,_,rfl,rfl,Nat.le_of_lt (bD (by omega)),_,rfl,_,rfl,_,_,rfl,rfl,q26,_,_,97+s,rfl,rfl,by decide,aM0 s25,_,_,rfl,rfl,Nat.le_of_lt (bD (by omega)),?_⟩;refine ⟨_,rfl,_,_,rfl,rfl,rfl,_,rfl,by rw [strLen_append];exact z3,((aX8 wdl _ _).app (Lt.one (by decide))).app (Lt.one (by omega)),?_⟩;rw [bC6];omega
  | false =>
   refine bC (by simp) ?_;refine ⟨_,rfl,.inl ⟨rfl,_,bN.of L8.lst⟩,_,rfl,lf,_,_,rfl,rfl,L8.lst,bD (by rw [List.length_map];omega),ws++[wd],_,_,_,_,rfl,?_,(aQ nwf).trans h8,aC2 o8 nf,by rw [List.length_append,hw];rfl,fun x hx=>?_⟩
   ·rw [List.map_append];exact L8.app _
   ·rcases List.mem_append.mp hx with e | e
    ·exact wlt x e
    ·rw [List.mem_singleton.mp e];exact wdl
 ·rintro σ G ⟨ws,v5,v6,v7,v8,rfl,L3,h3,o3,hw,wlt⟩;exact ⟨_,rfl,k lf ws G L3.deal o3 nf L3.lst (by omega) wlt⟩
theorem sR:aS ["_law_deal_here","_law_half","_law_q","_law_p","_law_d"] ["_law_deal_here","_law_half"] (aG aG9):=by refine ⟨rfl,rfl,rfl,?_,rfl,?_,?_⟩<;>decide +kernel
theorem bT4 {f:Addr}{fd:FuncData}(F:dO K "_law_steep" "_law_steep" aG9 f fd)
  (C_Draw:Cl P w K mg base 1 ["_law_deal_here","_law_many"] spDraw "_law_draw")
  (m_int:mg "int"=none) :
  bQ P w K mg base dS (2) f fd ["_law_deal_here","_law_half"] spStp:=by
 refine F.ok sR (fun vs H Q E h=>?_) (fun cdv A outer s H vs Q E hr h=>?_)
 ·obtain ⟨d,l,b,rfl,_⟩:=h;rfl
 obtain ⟨d,l,b,rfl,D,k⟩:=h;refine ⟨_,(@aF _ _ _ _ _ (aK (i:=2) sR.nd rfl (Or.inl rfl) (aL cC aD (bR C_Draw hr (aA (pv 0) (aA aD aC)))))
  (@aF _ _ _ _ _ (aK (i:=3) sR.nd rfl (Or.inl rfl) (aL cC aD (bR C_Draw hr (aA (pv 0) (aA (bI bZ (bS (aA (aL cZ (pv 2) aD) (aA (aL jZ (pv 2) aD) aC))) (bY fU (by rfl) m_int PyProof.Rows.boot_int (aA (pv 1) aC))) aC)))))
  (@aF _ _ _ _ _ (dN PassesOwn.never rfl (mX (@aO _ _ _ _ _ (@aA _ _ _ _ _ aD (@aA _ _ _ _ _ aD (@aA _ _ _ _ _ aD (@aA _ _ _ _ _ aD aC rfl) rfl) rfl) rfl))) (aU (i:=4) sR.nd rfl (Or.inl rfl))
  (aH (fK PassesOwn.never (iO (PW.pt (iG (aV cR (aL fO (pv 3) (pv 4)) aD (bB _)) (gT (aV cR (aL fO (pv 2) (pv 4)) aD (bB _))))))
  (aF (aK (i:=3) sR.nd rfl (Or.inl rfl) (aL jZ (pv 3) (pv 4)))
  (aH (aK (i:=2) sR.nd rfl (Or.inl rfl) (aL jZ (pv 2) (pv 4))))))))
  (@aH _ _ _ (aM (aO (aA (pv 3) (aA (pv 2) aC)))))))),?_⟩
 refine ⟨_,rfl,d,l,8,rfl,D,by decide,by decide,fun y H1 y0 y1 D1 o1=>⟨_,_,rfl,rfl,?_⟩⟩;refine ⟨_,rfl,_,rfl,_,_,rfl,rfl,_,rfl,_,_,rfl,rfl,⟨by decide,by decide⟩,bM,fun l0 hl0=>?_⟩;have nl:=(cQ D1 hl0).2;obtain ⟨H2,e0,s2,h2⟩:=gJ hl0 (.lst [.int (2+y - 1),.int ((2+y) / 2)]);rw [e0];clear e0;have D2:=D1.same s2;obtain ⟨w,hw,hc⟩:∃ w,jA [V.int (2+y - 1),V.int ((2+y) / 2)] (if b=true then 1 else 0)=some (.int w)/\1<=w/\w<=1+y:=by
  cases b with
  | true=>exact ⟨_,rfl,by omega,by omega⟩
  | false=>exact ⟨_,rfl,by omega,by omega⟩
 refine ⟨_,rfl,.inr ⟨b,rfl,l0,_,_,.int w,rfl,rfl,bN.of h2,hw,d,l,w,rfl,D2,by omega,by omega,fun z H3 z0 z1 D3 o3=>⟨_,_,rfl,rfl,?_⟩⟩⟩;refine ⟨by show 4<=sizeLine;decide,fun t4 ht4=>?_⟩;have s4:=aB ht4 (.tup [.int 2,.int 3,.int 5,.int 7]);have h4:aW H3 t4 (.tup [.int 2,.int 3,.int 5,.int 7]) t4=some (.tup (eN.map V.int)):=aE;have D4:=D3.same s4;have o4:eM d l H (aW H3 t4 (.tup [.int 2,.int 3,.int 5,.int 7])):=o1.trans ((eM.of s2).trans (o3.trans (eM.of s4)));generalize aW H3 t4 (.tup [.int 2,.int 3,.int 5,.int 7])=H4 at s4 h4 D4 o4 ⊢;refine ⟨t4,rfl,⟨_,aX.of h4⟩,pN (K:=K) (a:=t4) (xs:=eN.map V.int) (fun i σ G=>G=H4/\∃ (q p:Int) (v4:Option V),σ=[some (.ref d),some (.bl b),some (.int q),some (.int p),v4]/\1<=p/\p < q/\q<=9/\ND i p q)
  ⟨rfl,_,_,_,rfl,by omega,by omega,by omega,fun _ z=>absurd z List.not_mem_nil⟩ (by rintro i σ G _ ⟨e,_⟩;rw [e];exact aX.of h4) ?_ ?_⟩
 ·rintro D' i v σ G hv ⟨rfl,q,p,v4,rfl,p1,pq,q9,nd⟩;obtain ⟨e,rfl,he⟩:=nV hv;have e2:2<=e/\e<=7:=by
   have:=List.mem_of_getElem? he;unfold eN at this;simp only [List.mem_cons,List.not_mem_nil,or_false] at this;omega
  have e0:(0:Int) < e:=by omega
  refine ⟨fun m σ' G'=>G'=G/\∃ (q p:Int),σ'=[some (.ref d),some (.bl b),some (.int q),some (.int p),some (.int e)]/\1<=p/\p < q/\q<=9/\ND i p q/\m=q.toNat,⟨_,rfl,q,p,rfl,p1,pq,q9,nd,rfl⟩,?_⟩;rintro m σ' G' ⟨rfl,q,p,rfl,p1,pq,q9,nd,rfl⟩;refine ⟨fun b' G2=>G2=G'/\(b'=true->p % e=0/\q % e=0)/\(b'=false->¬ (p % e=0/\q % e=0)),?_,?_⟩
  ·refine ⟨_,rfl,_,rfl,_,_,rfl,rfl,e0,rfl,_,rfl,?_⟩
   by_cases c:p % e=0
   ·refine bO (decide_eq_true (show V.int (p % e)=V.int 0 by rw [c])) ⟨_,rfl,_,rfl,_,_,rfl,rfl,e0,rfl,_,rfl,rfl,fun z=>⟨c,?_⟩,fun z=>?_⟩
    ·have z:=of_decide_eq_true z;injection z
    ·have z:=of_decide_eq_false z;exact fun w=>z (by show V.int (q % e)=V.int 0;rw [w.2])
   ·exact bC (fun z=>c (by have z:=of_decide_eq_true z;injection z)) ⟨rfl,(fun z=>nomatch z),fun _ w=>c w.1⟩
  rintro b' G2 ⟨rfl,hb,hb2⟩
  cases b' with
  | true =>
   refine bO rfl ?_;have h0:=hb rfl;have hq:=bO0 e2.1 h0.1 h0.2 p1 pq;have nd2:=nd.div e0 h0.1 h0.2;refine ⟨fun σ2 G3=>G3=G2/\σ2=[some (.ref d),some (.bl b),some (.int (q / e)),some (.int (p / e)),some (.int e)],?_,?_⟩
   ·rintro σ2 G3 ⟨rfl,rfl⟩;exact ⟨_,by omega,rfl,_,_,rfl,hq.1,hq.2.1,by omega,nd2,rfl⟩
   ·exact ⟨_,rfl,_,rfl,_,_,rfl,rfl,⟨e0,by omega⟩,_,rfl,_,rfl,_,_,rfl,rfl,⟨e0,by omega⟩,rfl,rfl⟩
  | false=>exact bC (by simp) ⟨rfl,_,_,_,rfl,p1,pq,q9,nd.more he (hb2 rfl)⟩
 ·rintro σ G ⟨rfl,q,p,v4,rfl,p1,pq,q9,nd⟩;exact ⟨_,rfl,_,rfl,bM,fun t ht=>k t p q _ (D4.same (aB ht _)) (o4.trans (.of (aB ht _))) aE (ND.cop nd p1 pq q9)⟩
theorem cE8:(["_law_k","_law_deal_here"]:List Str).Nodup:=by decide +kernel
theorem bE6:(["_law_k","_law_deal_here"]:List Str).Nodup:=by decide +kernel
theorem cA1:aS ["_law_deal_here","_law_many"] ["_law_deal_here","_law_many"] (aG aN1):=by refine ⟨rfl,rfl,rfl,?_,rfl,?_,?_⟩<;>decide +kernel
theorem bR2 {f:Addr}{fd:FuncData}(F:dO K "_law_sum" "_law_sum" aN1 f fd)
  (C_Draw:Cl P w K mg base 1 ["_law_deal_here","_law_many"] spDraw "_law_draw")
  (m_tuple:mg "tuple"=none) (m_range:mg "range"=none) :
  bQ P w K mg base dS (2) f fd ["_law_deal_here","_law_many"] spSumS:=by
 refine F.ok cA1 (fun vs H Q E h=>?_) (fun cdv A outer s H vs Q E hr h=>?_)
 ·obtain ⟨d,l,m,rfl,_⟩:=h;rfl
 obtain ⟨d,l,m,rfl,D,m0,m3,k⟩:=h;refine ⟨_,(@aH _ _ _ (aM (bY dD (by rfl) m_tuple PyProof.Rows.boot_tuple (aA (dG ["_law_k","_law_deal_here"] [none,some 0] (cY (by rfl) m_range (aA (pv 1) aC)) (fun _ _ _ _=>(aU (i:=0) (bE6) rfl (Or.inl rfl))) (fun _ _ _ _=>fG) (fun _ _ _ _=>(bI (cG3 K) (@bS _ _ _ _ (@aA _ _ _ _ _ aD (@aA _ _ _ _ _ aD (@aA _ _ _ _ _ aD (@aA _ _ _ _ _ aD (@aA _ _ _ _ _ aD aC rfl) rfl) rfl) rfl) rfl)) (bR C_Draw hr (aA (pv 1) (aA aD aC)))))) aC)))),?_⟩;refine ⟨_,rfl,m,rfl,by omega,by omega,fR (n:=m.toNat) (fun i ys σ G=>eB G d l/\eM d l H G/\(∃ v,σ=[v,some (.ref d)])/\∃ ws:List Int,ys=ws.map V.int/\ws.length=i/\∀ y∈ws,0<=y/\y<=3) (bD (by omega)) ⟨D,eM.refl _,⟨_,rfl⟩,[],rfl,rfl,fun _ z=>absurd z List.not_mem_nil⟩ (by rintro i ys σ G ⟨_,_,_,ws,e,e2,_⟩;rw [e,List.length_map];omega) ?_ ?_⟩
 ·rintro i ys σ G hi ⟨D1,o1,⟨v,rfl⟩,ws,rfl,hl,hb⟩;refine ⟨by show 5<=sizeLine;decide,fun l0 hl0=>?_⟩;have nl:=(cQ D1 hl0).2;obtain ⟨H2,e0,s2,h2⟩:=gJ hl0 (.lst [.int 0,.int 1,.int 1,.int 2,.int 3]);rw [e0];clear e0;refine ⟨_,rfl,d,l,5,rfl,D1.same s2,by decide,by decide,fun x H3 x0 x1 D3 o3=>?_⟩;obtain ⟨w,hw,w0,w3⟩:=bV8 x0 x1;refine ⟨l0,_,_,.int w,rfl,rfl,bN.of (bE (D1.same s2) h2 nl o3),hw,D3,o1.trans ((eM.of s2).trans o3),⟨_,rfl⟩,ws++[w],by rw [List.map_append];rfl,by rw [List.length_append,hl];rfl,fun y hy=>?_⟩;rcases List.mem_append.mp hy with z | z
  ·exact hb y z
  ·rw [List.mem_singleton.mp z];exact ⟨w0,w3⟩
 ·rintro ys σ G ⟨D1,o1,_,ws,rfl,hl,hb⟩ lx hlx;exact ⟨lx,_,rfl,.inl ⟨bN.of aE,fun t ht=>k t ws _ ((D1.same (aB hlx _)).same (aB ht _)) (o1.trans (eM.of ((aB hlx _).trans (aB ht _)))) aE hl hb⟩⟩
theorem cF2:(["_law_k","_law_deal_here","_law_many"]:List Str).Nodup:=by decide +kernel
theorem bG9:(["_law_k","_law_deal_here","_law_many"]:List Str).Nodup:=by decide +kernel
theorem pK:aS ["_law_deal_here","_law_world","_law_x","_law_form","_law_low","_law_high","_law_many","_law_sums","_law_mark"] ["_law_deal_here","_law_world","_law_x"] (aG aO6):=by refine ⟨rfl,rfl,rfl,?_,rfl,?_,?_⟩<;>decide +kernel
theorem bN3 {f:Addr}{fd:FuncData}(F:dO K "_law_throw" "_law_throw" aO6 f fd)
  (C_Draw:Cl P w K mg base 1 ["_law_deal_here","_law_many"] spDraw "_law_draw")
  (C_Stp:Cl P w K mg base 2 ["_law_deal_here","_law_half"] spStp "_law_steep")
  (C_Sum:Cl P w K mg base 2 ["_law_deal_here","_law_many"] spSumS "_law_sum")
  (m_tuple:mg "tuple"=none) (m_range:mg "range"=none) :
  bQ P w K mg base dS (3) f fd ["_law_deal_here","_law_world","_law_x"] spThrow:=by
 refine F.ok pK (fun vs H Q E h=>?_) (fun cdv A outer s H vs Q E hr h=>?_)
 ·obtain ⟨d,l,sc,kvs,x,kd,rfl,_⟩:=h;rfl
 obtain ⟨d,l,sc,kvs,x,kd,rfl,D,hsc,wk,nsd,k⟩:=h;have hu:=kK hr;refine ⟨_,(aF (aK (i:=3) pK.nd rfl (Or.inl rfl) (bR C_Draw hr (aA (pv 0) (aA aD aC))))
  (aF (aK (i:=4) pK.nd rfl (Or.inl rfl) (bR C_Draw hr (aA (pv 0) (aA aD aC))))
  (aF (aK (i:=5) pK.nd rfl (Or.inl rfl) (aL cC (pv 4) (bR C_Draw hr (aA (pv 0) (aA (aL cC (cB hu (pv 1) aJ (fun _ _=>rfl)) aD) aC)))))
  (aF (aK (i:=6) pK.nd rfl (Or.inr rfl) (cB hu (pv 1) aJ (fun _ _=>rfl)))
  (aF (aK (i:=7) pK.nd rfl (Or.inl rfl) (bY dD (by rfl) m_tuple PyProof.Rows.boot_tuple (aA (dG ["_law_k","_law_deal_here","_law_many"] [none,some 0,some 6] (cY (by rfl) m_range (aA (aL cC aD (bR C_Draw hr (aA (pv 0) (aA aD aC)))) aC)) (fun _ _ _ _=>(aU (i:=0) (bG9) rfl (Or.inl rfl))) (fun _ _ _ _=>fG) (fun _ _ _ _=>(bR C_Sum hr (aA (pv 1) (aA (pv 2) aC))))) aC)))
  (aF (bT (aV oU (pv 3) aD (bB _)) (aH (aM (aO (aA aJ (aA (pv 2) (aA (bI aI (pv 7) aD) (aA (bR C_Stp hr (aA (pv 0) (aA pE aC))) (aA (pv 4) (aA (pv 5) aC))))))))) bA)
  (aF (bT (aV cR (pv 3) aD (bB _)) (aH (aM (aO (aA aJ (aA (pv 2) (aA (bI aI (pv 7) aD) (aA (bR C_Draw hr (aA (pv 0) (aA aD aC))) (aA (pv 4) (aA (pv 5) aC))))))))) bA)
  (aF (bT (aV cR (pv 3) aD (bB _)) (aH (aM (aO (aA aJ (aA (pv 2) (aA (pv 7) (aA (bR C_Stp hr (aA (pv 0) (aA pE aC))) (aA (pv 4) (aA (pv 5) aC))))))))) bA)
  (aF (aK (i:=8) pK.nd rfl (Or.inl rfl) (aL cC (pv 4) (bR C_Draw hr (aA (pv 0) (aA (aL cC (aL cZ (pv 5) (pv 4)) aD) aC)))))
  (aH (aM (aO (aA aJ (aA (pv 2) (aA (pv 8) (aA (bR C_Stp hr (aA (pv 0) (aA pE aC))) (aA (bR C_Stp hr (aA (pv 0) (aA pE aC))) (aA (pv 7) (aA (pv 4) (aA (aL cC (pv 5) aD) aC)))))))))))))))))))),?_⟩
 obtain ⟨⟨wi,ww,wi0,wi6⟩,hkd,kd0,kd3⟩:=wk;have nsl:sc≠l:=by obtain ⟨sd,n,ls,z⟩:=D;exact fN hsc z.lc (by intro z;cases z)
 refine ⟨_,rfl,d,l,5,rfl,D,by decide,by decide,fun fo H1 f0 f1 D1 o1=>?_⟩;refine ⟨_,rfl,d,l,3,rfl,D1,by decide,by decide,fun lo H2 a0 a1 D2 o2=>?_⟩;have sc2:=(o1.trans o2) _ _ hsc nsd nsl;have g1:eE H2 sc (.str "wide") (some (.int wi)):=by rw [<- ww];exact eE.k (k:=Sum.inr "wide") sc2
 refine ⟨_,rfl,_,rfl,_,rfl,sc,_,rfl,g1,_,_,rfl,rfl,d,l,wi+1,rfl,D2,by omega,by omega,fun u H3 b0 b1 D3 o3=>⟨_,_,rfl,rfl,?_⟩⟩;have oA:=o1.trans (o2.trans o3);have sc3:=oA _ _ hsc nsd nsl;have g2:eE H3 sc (.str "kinds") (some (.int kd)):=by rw [<- hkd];exact eE.k (k:=Sum.inr "kinds") sc3
 dsimp only
 generalize hhi:lo+u=hi;refine ⟨_,rfl,sc,_,rfl,g2,?_⟩;refine ⟨_,rfl,d,l,4,rfl,D3,by decide,by decide,fun n4 H4 e0 e1 D4 o4=>⟨_,_,rfl,rfl,?_⟩⟩;have oB:=oA.trans o4;refine ⟨1+n4,rfl,by omega,by omega,fR (n:=(1+n4).toNat) (fun i ys σ G=>eB G d l/\eM d l H G/\(∃ v,σ=[v,some (.ref d),some (.int kd)])/\∃ wss:List (List Int),dP (nO G) ys wss/\wss.length=i/\∀ ws∈wss,ws.length=kd.toNat/\∀ y∈ws,0<=y/\y<=3) (bD (by omega)) ⟨D4,oB,⟨_,rfl⟩,[],trivial,rfl,fun _ z=>absurd z List.not_mem_nil⟩ (by rintro i ys σ G ⟨_,_,_,wss,e,e2,_⟩;rw [e.length];omega) ?_ ?_⟩
 ·rintro i ys σ G hi ⟨D5,o5,⟨v,rfl⟩,wss,tw,hl,hb⟩;refine ⟨_,rfl,_,rfl,d,l,kd,rfl,D5,kd0,kd3,fun p6 ws6 H6 D6 o6 h6 l6 b6=>⟨D6,o5.trans o6,⟨_,rfl⟩,wss++[ws6],dP.append (tw.mono fun _ _ z=>z.ts (TS.out D5 o6)) ⟨⟨p6,rfl,h6⟩,trivial⟩,by rw [List.length_append,hl];rfl,fun ws hw=>?_⟩⟩;rcases List.mem_append.mp hw with z | z
  ·exact hb ws z
  ·rw [List.mem_singleton.mp z];exact ⟨l6,b6⟩
 rintro ys σ G ⟨D5,o5,_,wss,tw,hl,hb⟩ lx hlx;refine ⟨lx,ys,rfl,.inl ⟨bN.of aE,fun t6 ht6=>?_⟩⟩;have s6:=(aB hlx (.lst ys)).trans (aB ht6 (.tup ys));have h6:aW (aW G lx (.lst ys)) t6 (.tup ys) t6=some (.tup ys):=aE;have D6:=D5.same s6;have o6:=o5.trans (eM.of (d:=d) (l:=l) s6);have tw6:dP (nO (aW (aW G lx (.lst ys)) t6 (.tup ys))) ys wss:=tw.mono fun _ _ z=>z.ts (.of s6)
 generalize aW (aW G lx (.lst ys)) t6 (.tup ys)=H6 at D6 o6 h6 tw6 ⊢;have l14:1<=wss.length/\wss.length<=4:=by omega
 obtain ⟨w0,wr,rfl⟩:=yW l14.1;obtain ⟨y0,yr,rfl⟩:∃ y0 yr,ys=y0 :: yr:=by
  cases ys with
  | nil=>exact tw6.elim
  | cons a b=>exact ⟨a,b,rfl⟩
 obtain ⟨⟨ya,rfl,hya⟩,_⟩:=id tw6;have hb0:=hb w0 List.mem_cons_self;have one:∀ ws∈[w0],ws.length=kd.toNat/\∀ y∈ws,0<=y/\y<=3:=fun ws hw=>by rw [List.mem_singleton.mp hw];exact hb0
 have ekd:((kd.toNat:Nat):Int)=kd:=by omega
 refine ⟨_,rfl,_,_,rfl,rfl,_,rfl,?_⟩
 by_cases c0:fo < 2
 ·refine bO (decide_eq_true c0) ?_;refine ⟨_,rfl,_,rfl,t6,_,_,.ref ya,rfl,rfl,aX.of h6,jG,_,rfl,d,l,false,rfl,D6,fun p7 a7 c7 H7 D7 o7 t7 cop7=>⟨_,rfl,_,rfl,by show 6<=sizeLine;decide,fun p hp=>?_⟩⟩;exact k p "ladder" ⟨[.ref ya,.ref p7,.int lo,.int hi],.lad a7 c7 lo hi,[w0],kd.toNat⟩ _ (D7.same (aB hp _)) (o6.trans (o7.trans (eM.of (aB hp _)))) aE ⟨rfl,cop7,⟨ya,w0,p7,rfl,rfl,(aB hp _) _ _ (TS.out D6 o7 _ _ hya),(aB hp _) _ _ t7⟩,⟨by show 1<=1;decide,by show 1<=4;decide,one⟩⟩ ekd
 refine bC (by simpa using c0) ?_;refine ⟨_,rfl,rfl,_,rfl,?_⟩
 by_cases c1:fo=2
 ·refine bO (by rw [c1];exact decide_eq_true rfl) ?_;refine ⟨_,rfl,_,rfl,t6,_,_,.ref ya,rfl,rfl,aX.of h6,jG,_,rfl,d,l,5,rfl,D6,by decide,by decide,fun y H7 yy0 yy1 D7 o7=>⟨_,rfl,_,rfl,by show 6<=sizeLine;decide,fun p hp=>?_⟩⟩;exact k p "flat" ⟨[.ref ya,.int y,.int lo,.int hi],.fla y lo hi,[w0],kd.toNat⟩ _ (D7.same (aB hp _)) (o6.trans (o7.trans (eM.of (aB hp _)))) aE ⟨rfl,⟨yy0,by omega⟩,⟨ya,w0,rfl,rfl,(aB hp _) _ _ (TS.out D6 o7 _ _ hya)⟩,⟨by show 1<=1;decide,by show 1<=4;decide,one⟩⟩ ekd
 refine bC (fun z=>c1 (by have z:=of_decide_eq_true z;injection z)) ?_;refine ⟨_,rfl,rfl,_,rfl,?_⟩
 by_cases c2:fo=3
 ·refine bO (by rw [c2];exact decide_eq_true rfl) ?_;refine ⟨_,rfl,_,rfl,_,rfl,d,l,false,rfl,D6,fun p7 a7 c7 H7 D7 o7 t7 cop7=>⟨_,rfl,_,rfl,by show 6<=sizeLine;decide,fun p hp=>?_⟩⟩;have tt:=(TS.out D6 o7).trans (TS.of (aB hp (.tup [.str "choose",.str x,.ref t6,.ref p7,.int lo,.int hi])));exact k p "choose" ⟨[.ref t6,.ref p7,.int lo,.int hi],.cho a7 c7 lo hi,w0 :: wr,kd.toNat⟩ _ (D7.same (aB hp _)) (o6.trans (o7.trans (eM.of (aB hp _)))) aE ⟨rfl,cop7,⟨t6,_,p7,rfl,tt _ _ h6,tw6.mono fun _ _ z=>z.ts tt,(aB hp _) _ _ t7⟩,⟨l14.1,l14.2,hb⟩⟩ ekd
 refine bC (fun z=>c2 (by have z:=of_decide_eq_true z;injection z)) ?_;refine ⟨_,rfl,_,rfl,_,rfl,_,rfl,_,_,rfl,rfl,_,_,rfl,rfl,d,l,_,rfl,D6,by omega,by omega,fun mk H7 g0 g1 D7 o7=>⟨_,_,rfl,rfl,?_⟩⟩;refine ⟨_,rfl,_,rfl,_,rfl,d,l,false,rfl,D7,fun p8 a8 c8 H8 D8 o8 t8 cop8=>⟨_,rfl,d,l,true,rfl,D8,fun p9 a9 c9 H9 D9 o9 t9 cop9=>⟨_,rfl,_,rfl,_,rfl,_,_,rfl,rfl,by show 8<=sizeLine;decide,fun p hp=>?_⟩⟩⟩;have sz:=aB hp (.tup [.str "first",.str x,.int (lo+mk),.ref p8,.ref p9,.ref t6,.int lo,.int (hi+1)]);have t89:=(TS.out D8 o9).trans (TS.of sz);have tt:=(TS.out D6 o7).trans ((TS.out D7 o8).trans t89);exact k p "first" ⟨[.int (lo+mk),.ref p8,.ref p9,.ref t6,.int lo,.int (hi+1)],.fst a8 c8 a9 c9 (lo+mk) lo (hi+1),w0 :: wr,kd.toNat⟩ _ (D9.same sz) (o6.trans (o7.trans (o8.trans (o9.trans (eM.of sz))))) aE ⟨rfl,⟨cop8,cop9,by omega,by omega⟩,⟨t6,_,p8,p9,rfl,tt _ _ h6,tw6.mono fun _ _ z=>z.ts tt,t89 _ _ t8,sz _ _ t9⟩,⟨l14.1,l14.2,hb⟩⟩ ekd
theorem aU2:aS ["_law_deal_here","_law_known","_law_room","_law_left","_law_one"] ["_law_deal_here","_law_known","_law_room"] (aG aK2):=by refine ⟨rfl,rfl,rfl,?_,rfl,?_,?_⟩<;>decide +kernel
theorem bO1 (n:Nat) {f:Addr}{fd:FuncData}(F:dO K "_law_term" "_law_term" aK2 f fd)
  (C_Trm:Cl P w K mg base (n+1) ["_law_deal_here","_law_known","_law_room"] (aU3 n) "_law_term")
  (C_Draw:Cl P w K mg base 1 ["_law_deal_here","_law_many"] spDraw "_law_draw")
  (m_len:mg "len"=none) :
  bQ P w K mg base dS (n+1+1) f fd ["_law_deal_here","_law_known","_law_room"] (aU3 (n+1)):=by
 refine F.ok aU2 (fun vs H Q E h=>?_) (fun cdv A outer s H vs Q E hr h=>?_)
 ·obtain ⟨d,l,kn,ks,room,rfl,_⟩:=h;rfl
 obtain ⟨d,l,kn,ks,room,rfl,D,hk,nk,lk,r1,r64,r2,k⟩:=h;refine ⟨_,(aF (bT (iO (PW.pt (aD5 (aV oU (pv 2) aD (bB _)) (uP (aV cR (bR C_Draw hr (aA (pv 0) (aA aD aC))) aD (bB _)))))) (aF (bT (iO (PW.pt (iG (aV kU (bV cG (by rfl) m_len PySem.boot_len (aA (pv 1) aC)) aD (bB _)) (gT (aV kU (bR C_Draw hr (aA (pv 0) (aA aD aC))) aD (bB _)))))) (aH (aM (aO (aA aJ (aA (bI bZ (pv 1) (bR C_Draw hr (aA (pv 0) (aA (bV cG (by rfl) m_len PySem.boot_len (aA (pv 1) aC)) aC)))) aC))))) bA)
  (aH (aM (aO (aA aJ (aA (bR C_Draw hr (aA (pv 0) (aA (bI bZ (bS (aA aD (aA aD (aA aD aC)))) (bR C_Draw hr (aA (pv 0) (aA aD aC)))) aC))) aC)))))) bA)
  (aF (aK (i:=3) aU2.nd rfl (Or.inl rfl) (aL cC aD (bR C_Draw hr (aA (pv 0) (aA (aL cZ (pv 2) aD) aC)))))
  (aF (aK (i:=4) aU2.nd rfl (Or.inl rfl) (bR C_Trm hr (aA (pv 0) (aA (pv 1) (aA (pv 3) aC)))))
  (aH (aM (aO (aA aJ (aA (bI tU aJ (bR C_Draw hr (aA (pv 0) (aA aD aC)))) (aA (pv 4) (aA (bR C_Trm hr (aA (pv 0) (aA (pv 1) (aA (aL cZ (aL cZ (pv 2) aD) (pv 3)) aC)))) aC)))))))))),?_⟩
 refine ⟨fun b G=>eB G d l/\eM d l H G/\(b=false->3<=room),?_,?_⟩
 ·refine ⟨_,rfl,_,_,rfl,rfl,_,rfl,?_⟩
  by_cases c1:room < 3
  ·exact bO (decide_eq_true c1) ⟨D,eM.refl _,fun z=>nomatch z⟩
  ·exact bC (by simpa using c1) ⟨_,rfl,d,l,3,rfl,D,by decide,by decide,fun x H1 x0 x1 D1 o1=>⟨rfl,_,rfl,D1,o1,fun _=>by omega⟩⟩
 rintro b G ⟨D1,o1,hb⟩;have hk1:=bE D hk nk o1
 cases b with
 | false =>
  refine bC (by simp) ?_;have c1:=hb rfl
  cases n with
  | zero=>exact absurd c1 (by omega)
  | succ n =>
  refine ⟨_,rfl,_,rfl,_,_,rfl,rfl,d,l,room - 2,rfl,D1,by omega,by omega,fun x H2 x0 x1 D2 o2=>⟨_,_,rfl,rfl,?_⟩⟩;have hk2:=bE D1 hk1 nk o2;refine ⟨_,rfl,_,rfl,_,rfl,d,l,kn,ks,1+x,rfl,D2,hk2,nk,lk,by omega,by omega,by omega,fun t1 H3 D3 o3 h3 nm3 sz3=>?_⟩;have hk3:=bE D2 hk2 nk o3;refine ⟨_,rfl,d,l,5,rfl,D3,by decide,by decide,fun y H4 y0 y1 D4 o4=>?_⟩;obtain ⟨c,hc,hs⟩:=bS5 y0 y1;have hk4:=bE D3 hk3 nk o4;refine ⟨_,y,c,rfl,rfl,by decide,hc,_,rfl,_,rfl,_,rfl,_,rfl,_,_,rfl,rfl,_,rfl,_,_,rfl,rfl,d,l,kn,ks,room - 1 - (1+x),rfl,D4,hk4,nk,lk,by omega,by omega,by omega,fun t2 H5 D5 o5 h5 nm5 sz5=>⟨by show 4<=sizeLine;decide,fun p hp=>?_⟩⟩;have s6:=aB hp (.tup [.str "op",.str ⟨#[c]⟩,.ref t1.p,.ref t2.p]);have t15:=(TS.out D3 o4).trans ((TS.out D4 o5).trans (.of s6));refine k (.op p ⟨#[c]⟩ t1 t2) _ (D5.same s6) (o1.trans (o2.trans (o3.trans (o4.trans (o5.trans (.of s6)))))) ⟨aE,h3.ts t15,h5.ts (.of s6)⟩ (fun z hz=>?_) ?_
  ·rcases List.mem_append.mp hz with q | q
   ·exact nm3 z q
   ·exact nm5 z q
  ·simp only [Tm.size];omega
 | true =>
  refine bO rfl ?_;refine ⟨fun b G'=>eB G' d l/\eM d l H G'/\(b=true->0 < ks.length),?_,?_⟩
  ·refine ⟨_,rfl,kn,_,rfl,.inl (bN.of hk1),_,_,rfl,rfl,_,rfl,?_⟩
   by_cases c:(0:Int) < ((ks.map V.str).length:Int)
   ·refine bO (decide_eq_true c) ⟨_,rfl,d,l,4,rfl,D1,by decide,by decide,fun x H2 x0 x1 D2 o2=>⟨_,_,rfl,rfl,_,rfl,D2,o1.trans o2,fun _=>by rw [List.length_map] at c;omega⟩⟩
   ·exact bC (by simpa using c) ⟨D1,o1,fun z=>nomatch z⟩
  rintro b G2 ⟨D2,o2,hb2⟩;have hk2:=bE D hk nk o2
  cases b with
  | true =>
   have kp:=hb2 rfl;refine bO rfl ?_;refine ⟨_,rfl,_,rfl,_,rfl,kn,_,rfl,.inl (bN.of hk2),d,l,_,rfl,D2,by rw [List.length_map];omega,by rw [List.length_map];omega,fun x H3 x0 x1 D3 o3=>?_⟩;obtain ⟨v,hv,ha⟩:=zM x0 x1;obtain ⟨y,rfl,hy⟩:=mH hv;refine ⟨kn,_,_,.str y,rfl,rfl,bN.of (bE D2 hk2 nk o3),ha,bM,fun p hp=>?_⟩;have s4:=aB hp (.tup [.str "name",.str y]);refine k (.nam p y) _ (D3.same s4) (o2.trans (o3.trans (.of s4))) aE (fun z hz=>?_) (by simp only [Tm.size];omega);rw [List.mem_singleton.mp hz];exact List.mem_of_getElem? hy
  | false =>
   refine bC (by simp) ?_;refine ⟨_,rfl,by show 3<=sizeLine;decide,fun l0 hl0=>?_⟩;have n0:=(cQ D2 hl0).2;obtain ⟨H3,e0,s3,h3⟩:=gJ hl0 (.lst [.int 4,.int 4,.int 1000]);rw [e0];clear e0;refine ⟨_,rfl,d,l,3,rfl,D2.same s3,by decide,by decide,fun x H4 x0 x1 D4 o4=>?_⟩;obtain ⟨w,hw,hc⟩:=aY6 (x:=4) (y:=4) (z:=1000) x0 x1;refine ⟨l0,_,_,.int w,rfl,rfl,bN.of (bE (D2.same s3) h3 n0 o4),hw,d,l,w,rfl,D4,by omega,by omega,fun y H5 y0 y1 D5 o5=>⟨bM,fun p hp=>?_⟩⟩;have s6:=aB hp (.tup [.str "num",.int y]);exact k (.num p y) _ (D5.same s6) (o2.trans ((eM.of s3).trans (o4.trans (o5.trans (.of s6))))) aE (fun z hz=>absurd hz List.not_mem_nil) (by simp only [Tm.size];omega)
theorem bC3:(["_law_y","_law_others"]:List Str).Nodup:=by decide +kernel
theorem cE9:(["_law_y","_law_others"]:List Str).Nodup:=by decide +kernel
theorem jC:aS ["_law_deal_here","_law_world","_law_known","_law_deep","_law_often","_law_form","_law_x","_law_many","_law_quiet","_law_term_here","_law_one","_law_ones","_law_other","_law_others","_law_k","_law_rows_here"] ["_law_deal_here","_law_world","_law_known","_law_deep","_law_often"] (aG aL9):=by refine ⟨rfl,rfl,rfl,?_,rfl,?_,?_⟩<;>decide +kernel
theorem tP (m:Nat) {f:Addr}{fd:FuncData}(F:dO K "_law_row" "_law_row" aL9 f fd)
  (C_Draw:Cl P w K mg base 1 ["_law_deal_here","_law_many"] spDraw "_law_draw")
  (C_Trm:Cl P w K mg base 8 ["_law_deal_here","_law_known","_law_room"] (aU3 7) "_law_term")
  (C_Rws:Cl P w K mg base (9+2 * m) ["_law_deal_here","_law_world","_law_known","_law_deep","_law_tells","_law_often"] (bF2 m) "_law_rows")
  (C_Thw:Cl P w K mg base 3 ["_law_deal_here","_law_world","_law_x"] spThrow "_law_throw")
  (m_int:mg "int"=none) (m_len:mg "len"=none) :
  bQ P w K mg base dS (9+2 * m+1) f fd ["_law_deal_here","_law_world","_law_known","_law_deep","_law_often"] (aZ0 m):=by
 refine F.ok jC (fun vs H Q E h=>?_) (fun cdv A outer s H vs Q E hr h=>?_)
 ·obtain ⟨d,l,sc,nl,kn,xs,ks,kd,lf,deep,often,rfl,_⟩:=h;rfl
 obtain ⟨d,l,sc,nl,kn,xs,ks,kd,lf,deep,often,rfl,W0,of1,hk,nk,kx,lk,hm,hd,k⟩:=h;have hu:=kK hr;have hr8:eF 8 _:=hr.mono (by omega);refine ⟨_,(aF (aK (i:=5) jC.nd rfl (Or.inl rfl) (bR C_Draw hr (aA (pv 0) (aA aD aC))))
  (aF (aK (i:=6) jC.nd rfl (Or.inl rfl) (bI bZ (cB hu (pv 1) aJ (fun _ _=>rfl)) (bR C_Draw hr (aA (pv 0) (aA (bV cG (by rfl) m_len PySem.boot_len (aA (cB hu (pv 1) aJ (fun _ _=>rfl)) aC)) aC)))))
  (aF (aK (i:=7) jC.nd rfl (Or.inl rfl) (aL gG (bR C_Draw hr (aA (pv 0) (aA aD aC))) (bY fU (by rfl) m_int PyProof.Rows.boot_int (aA (bS8 (cB hu (pv 1) aJ (fun _ _=>rfl))) aC))))
  (aF (bT (iO (PW.pt (iG (aV oU (pv 5) aD (bB _)) (gT (aV wT (cB hu (pv 1) aJ (fun _ _=>rfl)) (pv 4) (bB _)))))) (aF (dW hu (pv 1) aJ (aL cZ (cB hu (pv 1) aJ (fun _ _=>rfl)) (pv 4)) rfl)
  (aH (aM (aO (aA (bR C_Thw hr (aA (pv 0) (aA (pv 1) (aA (pv 6) aC)))) (aA (aL gF (pv 2) (bS (aA (pv 6) aC))) aC)))))) bA)
  (aF (bT (iO (PW.pt (iG (aV cR (pv 5) aD (bB _)) (iG (aV kU (pv 3) aD (bB _)) (gT (aV wT (cB hu (pv 1) aJ (fun _ _=>rfl)) (aL gG aD (pv 7)) (bB _))))))) (aF (aK (i:=8) jC.nd rfl (Or.inl rfl) (cB hu (pv 1) aJ (fun _ _=>rfl)))
  (aF (dW hu (pv 1) aJ pE rfl)
  (aF (dW hu (pv 1) aJ (aL cZ (cB hu (pv 1) aJ (fun _ _=>rfl)) (aL gG aD (pv 7))) rfl)
  (aF (aK (i:=9) jC.nd rfl (Or.inl rfl) (bR C_Trm hr (aA (pv 0) (aA (pv 2) (aA aD aC)))))
  (aF (fP (bR C_Rws hr (aA (pv 0) (aA (pv 1) (aA (pv 2) (aA (aL cZ (pv 3) aD) (aA (pv 7) (aA (pv 4) aC))))))) (fE rfl (bJ (aU (i:=10) jC.nd rfl (Or.inl rfl)) (bJ (aU (i:=11) jC.nd rfl (Or.inl rfl)) dY))))
  (aF (fP (bR C_Rws hr (aA (pv 0) (aA (pv 1) (aA (pv 2) (aA (aL cZ (pv 3) aD) (aA (pv 7) (aA (pv 4) aC))))))) (fE rfl (bJ (aU (i:=12) jC.nd rfl (Or.inl rfl)) (bJ (aU (i:=13) jC.nd rfl (Or.inr rfl)) dY))))
  (aF (dW hu (pv 1) aJ (pv 8) rfl)
  (aH (aM (aO (aA (aO (aA aJ (aA (pv 9) (aA (pv 10) (aA (pv 12) aC))))) (aA (dG ["_law_y","_law_others"] [none,some 13] (dC (pv 11)) (fun _ _ _ _=>(aU (i:=0) (bC3) rfl (Or.inl rfl))) (fun _ _ _ _=>(pB (aV (inK K) (pv 0) (pv 1) rfl))) (fun _ _ _ _=>(pv 0))) aC)))))))))))) bA)
  (aF (bT (iO (PW.pt (iG (aV cR (pv 5) aD (bB _)) (iG (aV kU (pv 3) aD (bB _)) (gT (aV wT (cB hu (pv 1) aJ (fun _ _=>rfl)) (pv 7) (bB _))))))) (aF (aK (i:=14) jC.nd rfl (Or.inl rfl) (aL cC aD (bR C_Draw hr (aA (pv 0) (aA (bI bZ (bS (aA aD (aA aD aC))) (aB9 (bY fU (by rfl) m_int PyProof.Rows.boot_int (aA (lA (dX kU (pv 4) aD (bB _)) (mS (dX oU (cB hu (pv 1) aJ (fun _ _=>rfl)) aD (bB _)))) aC)))) aC)))))
  (aF (dW hu (pv 1) aJ (aL cZ (cB hu (pv 1) aJ (fun _ _=>rfl)) (pv 7)) rfl)
  (aF (fP (bR C_Rws hr (aA (pv 0) (aA (pv 1) (aA (pv 2) (aA (aL cZ (pv 3) aD) (aA (pv 7) (aA (aL gG (pv 4) (pv 14)) aC))))))) (fE rfl (bJ (aU (i:=15) jC.nd rfl (Or.inl rfl)) (bJ (aU (i:=2) jC.nd rfl (Or.inl rfl)) dY))))
  (aH (aM (aO (aA (aO (aA aJ (aA (pv 14) (aA (pv 15) aC)))) (aA (pv 2) aC)))))))) bA)
  (aH (aM (aO (aA (aO (aA aJ (aA (pv 6) (aA (bR C_Trm hr (aA (pv 0) (aA (pv 2) (aA (aL cC aD (bR C_Draw hr (aA (pv 0) (aA aD aC)))) aC)))) aC)))) (aA (aL gF (pv 2) (bS (aA (pv 6) aC))) aC))))))))))),?_⟩
 have pp:=aQ1 m;refine ⟨_,rfl,d,l,9,rfl,W0.deal,by decide,by decide,fun fo H1 f0 f1 D1 o1=>?_⟩;have W1:=W0.out D1 o1;refine ⟨_,rfl,sc,_,rfl,W1.get_names,_,rfl,_,rfl,sc,_,rfl,W1.get_names,nl,_,rfl,.inl (bN.of W1.nms),d,l,_,rfl,W1.deal,by rw [List.length_map];have:=W1.x1;omega,by rw [List.length_map];have:=W1.x2;omega,fun y H2 y0 y1 D2 o2=>?_⟩;obtain ⟨v,hv,ha⟩:=zM y0 y1;obtain ⟨x,rfl,hx⟩:=mH hv;have mx:x∈xs:=List.mem_of_getElem? hx;have W2:=W1.out D2 o2;refine ⟨nl,_,_,.str x,rfl,rfl,bN.of W2.nms,ha,?_⟩;clear hv ha hx y0 y1 f0 f1;refine ⟨_,rfl,d,l,2,rfl,W2.deal,by decide,by decide,fun mm H3 m0 m1 D3 o3=>?_⟩;have W3:=W2.out D3 o3;obtain ⟨qb,gq⟩:=W3.get_quiet;have oA:jN [d,l,sc] H H3:=(jN.out (sc:=sc) o1).trans ((jN.out (sc:=sc) o2).trans (jN.out (sc:=sc) o3));have hk3:=W0.keep hk nk oA;refine ⟨_,rfl,sc,_,rfl,gq,qb,rfl,.inr ⟨_,rfl,_,_,rfl,rfl,.inl ⟨by omega,by omega⟩,?_⟩⟩;have hM:0<=mm * (if (!qb)=true then 1 else 0)/\mm * (if (!qb)=true then 1 else 0)<=1:=by cases qb <;> simp <;> omega
 dsimp only
 generalize mm * (if (!qb)=true then 1 else 0)=many at hM ⊢;obtain ⟨a0,a1⟩:=hM;clear gq W1 W2 D1 D2 D3 o1 o2 o3 m0 m1;have mb:bG3 2 many:= .inl ⟨by decide,by decide⟩;have lf0:=W3.lf0;refine ⟨fun b G=>G=H3/\(b=true->often<=lf),?_,?_⟩
 ·have gl:=W3.get_left;exact ⟨_,rfl,_,_,rfl,rfl,_,rfl,lQ (fun _=>⟨_,rfl,sc,_,rfl,gl,_,rfl,_,_,rfl,rfl,_,rfl,rfl,fun z=>of_decide_eq_true z⟩) (fun _=>⟨rfl,fun z=>nomatch z⟩)⟩
 rintro b G ⟨rfl,hbl⟩
 cases b with
 | true =>
  refine bO rfl ?_;have gl:=W3.get_left;have lo:=hbl rfl;obtain ⟨kv4,dp4,W4,o4⟩:=W3.put_left (lf - often) (by omega);refine ⟨_,rfl,sc,_,rfl,gl,_,rfl,_,_,rfl,rfl,_,rfl,sc,_,rfl,dp4,?_⟩;have hk4:=W3.keep hk3 nk o4;generalize aW G sc (.dK kv4)=H4 at W4 o4 hk4 ⊢;obtain ⟨kvs,hsc,wk⟩:=W4.scn;refine ⟨_,rfl,_,rfl,_,rfl,d,l,sc,kvs,x,kd,rfl,W4.deal,hsc,⟨⟨6,wk.wd,by decide,by decide⟩,wk.kd⟩,W4.ne1,fun pt w ws H5 D5 o5 h5 ok5 ekd=>?_⟩;have W5:=W4.out D5 o5;have hk5:=bE W4.deal hk4 nk o5;have oB:=oA.trans (o4.trans (jN.out (sc:=sc) o5));refine ⟨_,rfl,_,rfl,iT,fun l6 hl6=>?_⟩;obtain ⟨H6,e0,s6,h6⟩:=gJ hl6 (.lst [.str x]);rw [e0];clear e0;refine ⟨kn,l6,_,_,rfl,rfl,s6 _ _ hk5,h6,Nat.le_of_lt (eY (by rw [List.length_map];show ks.length+1<=_;omega)),fun l7 hl7=>⟨bM,fun p hp=>?_⟩⟩;have n7:H l7=none:=oB.fresh W5.all (s6.free hl7);have n7l:=(cQ (W5.deal.same s6) hl7).2;have s7:=s6.trans ((aB hl7 (.lst (ks.map V.str++[.str x]))).trans (aB hp (.tup [.ref pt,.ref l7])))
  refine k p l7 (.thr pt w x ws) (ks++[x]) _ _ (W5.same s7) (by simp only [mW];omega) (iE.one ekd iE.nil) (oB.trans (.of s7)) aE ⟨s7 _ _ h5,ok5.ts (.of s7)⟩ pp (Nat.zero_le _) (iR.one (fun t ht=>absurd ht List.not_mem_nil) iR.nil) (.inr n7) n7l ?_ (fun y hy=>?_) (by rw [List.length_append];show ks.length+1<=_;omega)
  ·rw [(aB hp (.tup [.ref pt,.ref l7])) _ _ aE,List.map_append];rfl
  ·rcases List.mem_append.mp hy with e | e
   ·exact kx y e
   ·rw [List.mem_singleton.mp e];exact mx
 | false =>
 refine bC (by simp) ?_;refine ⟨fun b G'=>G'=G/\(b=true->0 < deep),?_,?_⟩
 ·obtain ⟨rm,gr⟩:=W3.get_room;refine ⟨_,rfl,rfl,_,rfl,lQ (fun _=>⟨_,rfl,_,_,rfl,rfl,_,rfl,?_⟩) (fun _=>⟨rfl,fun z=>nomatch z⟩)⟩
  by_cases c:0 < deep
  ·exact bO (decide_eq_true c) ⟨_,rfl,sc,_,rfl,gr,_,rfl,_,_,rfl,rfl,mb,_,_,rfl,rfl,_,rfl,rfl,fun _=>c⟩
  ·exact bC (by simpa using c) ⟨rfl,fun z=>nomatch z⟩
 rintro b G' ⟨rfl,hb⟩
 cases b with
 | true =>
  refine bO rfl ?_;have d0:=hb rfl
  cases m with
  | zero=>exact absurd d0 (by omega)
  | succ m =>
  have cl:=aY2 m;simp only [pb] at lk;obtain ⟨q4,g4⟩:=W3.get_quiet;obtain ⟨kv4,dp4,W4,o4⟩:=W3.put_quiet true;refine ⟨_,rfl,sc,_,rfl,g4,_,rfl,sc,_,rfl,dp4,?_⟩;have hk4:=W3.keep hk3 nk o4;generalize aW G' sc (.dK kv4)=H4 at W4 o4 hk4 ⊢;obtain ⟨rm,gr⟩:=W4.get_room;obtain ⟨kv5,dp5,W5,o5⟩:=W4.put_room (rm - 2 * many);refine ⟨_,rfl,sc,_,rfl,gr,_,rfl,_,_,rfl,rfl,mb,_,_,rfl,rfl,_,rfl,sc,_,rfl,dp5,?_⟩;have hk5:=W4.keep hk4 nk o5;generalize aW H4 sc (.dK kv5)=H5 at W5 o5 hk5 ⊢;refine ⟨_,rfl,_,rfl,d,l,kn,ks,5,rfl,W5.deal,hk5,nk,by omega,by decide,by decide,by decide,fun t H6 D6 o6 h6 nm6 sz6=>?_⟩;have W6:=W5.out D6 o6;have hk6:=bE W5.deal hk5 nk o6;have oB:=oA.trans (o4.trans (o5.trans (jN.out (sc:=sc) o6)));refine ⟨_,rfl,_,rfl,_,rfl,_,rfl,_,_,rfl,rfl,_,rfl,_,rfl,d,l,sc,nl,kn,xs,ks,kd,_,deep - 1,many,often,rfl,W6,of1,hk6,nk,kx,by omega,by omega,by omega,by omega,by omega,fun p7 pr7 kn7 rs7 k7 lf7 H7 W7 le7 kd7 o7 h7 hp7 hr7 c7 dd7 ok7 q7 n7 hk7 kx7 kl7=>?_⟩
  refine ⟨p7,_,rfl,aX.of h7,rfl,_,_,rfl,_,_,rfl,rfl,?_⟩;have hkk7:=W6.keep hk6 nk o7;refine ⟨_,rfl,_,rfl,_,rfl,_,rfl,_,_,rfl,rfl,_,rfl,_,rfl,d,l,sc,nl,kn,xs,ks,kd,_,deep - 1,many,often,rfl,W7,of1,hkk7,nk,kx,by omega,by omega,by omega,by omega,by omega,fun p8 pr8 kn8 rs8 k8 lf8 H8 W8 le8 kd8 o8 h8 hp8 hr8 c8 dd8 ok8 q8 n8 hk8 kx8 kl8=>?_⟩;refine ⟨p8,_,rfl,aX.of h8,rfl,_,_,rfl,_,_,rfl,rfl,?_⟩;have ts78:=W7.ts o8;have hk78:=W7.keep hk7 n7 o8;obtain ⟨kv9,dp9,W9,o9⟩:=W8.put_quiet q4;refine ⟨_,rfl,_,rfl,sc,_,rfl,dp9,?_⟩;have ts89:=W8.ts o9;have hk79:=W8.keep hk78 n7 o9;have hk89:=W8.keep hk8 n8 o9;have oC:=oB.trans (o7.trans (o8.trans o9));have tm9:=h6.ts (((W6.ts o7).trans ts78).trans ts89);have hp79:=(ts78.trans ts89) _ _ hp7;have hp89:=ts89 _ _ hp8;have hr79:=bL.ts (ts78.trans ts89) _ hr7;have hr89:=bL.ts ts89 _ hr8;clear hr7 hr8 hp7 hp8 h7 h8 dp9 o9 ts89 ts78;generalize aW H8 sc (.dK kv9)=H9 at W9 hk79 hk89 oC tm9 hp79 hp89 hr79 hr89 ⊢
  refine ⟨_,rfl,_,rfl,_,rfl,by show 4<=sizeLine;decide,fun q hq=>?_⟩;obtain ⟨H10,e0,s10,h10⟩:=gJ hq (.tup [.str "when",.ref t.p,.ref pr7,.ref pr8]);rw [e0];clear e0;refine ⟨_,rfl,kn7,rfl,⟨_,bN.of (s10 _ _ hk79)⟩,eO (K:=K) (a:=kn7) (xs:=k7.map V.str) (fun i ys σ G=>G=H10/\(∃ v,σ=[v,some (.ref kn8)])/\ys=((k7.take i).filter fun x=>decide (x∈k8)).map V.str)
   (eY (by rw [List.length_map];omega)) ⟨rfl,⟨_,rfl⟩,rfl⟩ (fun i ys σ G ⟨_,_,e⟩=>by
    rw [e,List.length_map];exact Nat.le_trans (List.length_filter_le _ _) (by rw [List.length_take];omega)) (by rintro i ys σ G _ ⟨e,_⟩;rw [e];exact bN.of (s10 _ _ hk79)) ?_ ?_⟩
  ·rintro i v ys σ G hv ⟨rfl,⟨v',rfl⟩,rfl⟩;obtain ⟨x,rfl,hx⟩:=mH hv;refine ⟨_,rfl,_,rfl,kn8,_,rfl,.inl (bN.of (s10 _ _ hk89)),rfl,eA _,_,rfl,?_⟩;have ei:lC (V.str x) (k8.map V.str)=decide (x∈k8):=cJ _ _;rw [bF hx,List.filter_append,List.map_append]
   by_cases c:x∈k8
   ·refine bO (ei.trans (decide_eq_true c)) ⟨_,rfl,rfl,⟨_,rfl⟩,?_⟩;rw [List.filter_cons_of_pos (p:=fun x=>decide (x∈k8)) (decide_eq_true c)];rfl
   ·refine bC (fun z=>c (of_decide_eq_true (ei.symm.trans z))) ⟨rfl,⟨_,rfl⟩,?_⟩;rw [List.filter_cons_of_neg (p:=fun x=>decide (x∈k8)) (by simpa using c)];simp
  rintro ys σ G ⟨rfl,_,rfl⟩ l7 hl7;rw [List.length_map,List.take_length];have fl:=List.length_filter_le (fun x=>decide (x∈k8)) k7;have fm:∀ y∈k7.filter (fun x=>decide (x∈k8)),y∈xs:=fun y hy=>kx7 y (List.mem_filter.mp hy).1
  generalize k7.filter (fun x=>decide (x∈k8))=kz at fl fm ⊢;have s11:=aB hl7 (.lst (kz.map V.str));have h11:aW G l7 (.lst (kz.map V.str)) l7=some (.lst (kz.map V.str)):=aE;have n11:H l7=none:=oC.fresh W9.all (s10.free hl7);have n11l:=(cQ (W9.deal.same s10) hl7).2;generalize aW G l7 (.lst (kz.map V.str))=H11 at s11 h11 ⊢;refine ⟨bM,fun p hp=>?_⟩;have s12:=s10.trans (s11.trans (aB hp (.tup [.ref q,.ref l7])));have s13:=s11.trans (aB hp (.tup [.ref q,.ref l7]));refine k p l7 (.when q pr7 pr8 t rs7 rs8) kz _ _ (W9.same s12) (by simp only [mW];rw [Int.natCast_add,Int.mul_add];omega) (iE.one trivial (iE.app kd7 kd8)) (oC.trans (.of s12)) aE ⟨s13 _ _ h10,tm9.ts (.of s12),s12 _ _ hp79,s12 _ _ hp89,bL.ts (.of s12) _ hr79,bL.ts (.of s12) _ hr89⟩ ?_ ?_ (iR.one (fun t' ht=>?_) (iR.app ok7 ok8)) (.inr n11) n11l ((aB hp _) _ _ h11) fm ?_
  ·simp only [Rw.cnt,pb];omega
  ·simp only [qR];omega
  ·rw [List.mem_singleton.mp ht];exact ⟨by omega,fun y hy=>kx y (nm6 y hy)⟩
  ·simp only [pb];omega
 | false =>
 refine bC (by simp) ?_;refine ⟨fun b G=>G=G'/\(b=true->0 < deep),?_,?_⟩
 ·obtain ⟨rm,gr⟩:=W3.get_room;refine ⟨_,rfl,rfl,_,rfl,lQ (fun _=>⟨_,rfl,_,_,rfl,rfl,_,rfl,?_⟩) (fun _=>⟨rfl,fun z=>nomatch z⟩)⟩
  by_cases c:0 < deep
  ·exact bO (decide_eq_true c) ⟨_,rfl,sc,_,rfl,gr,_,rfl,_,_,rfl,rfl,_,rfl,rfl,fun _=>c⟩
  ·exact bC (by simpa using c) ⟨rfl,fun z=>nomatch z⟩
 rintro b G ⟨rfl,hb⟩
 cases b with
 | true =>
  refine bO rfl ?_;have d0:=hb rfl
  cases m with
  | zero=>exact absurd d0 (by omega)
  | succ m =>
  have cl:=aY2 m;simp only [pb] at lk;obtain ⟨fr,gf⟩:=W3.get_far;refine ⟨_,rfl,bM,fun l0 hl0=>?_⟩;have n0:=(cQ W3.deal hl0).2;obtain ⟨H4,e0,s4,h4⟩:=gJ hl0 (.lst [.int 3,.int 1]);rw [e0];clear e0;have W4:=W3.same s4;obtain ⟨fr,gf⟩:=W4.get_far;refine ⟨fun v G1=>G1=H4/\∃ z:Int,v= .int z/\0<=z/\z < 2,?_,?_⟩
  ·refine ⟨_,rfl,_,_,rfl,rfl,_,rfl,lQ (fun _=>⟨_,rfl,sc,_,rfl,gf,_,_,rfl,rfl,.inr ⟨_,rfl,rfl,_,rfl,?_,?_⟩⟩) (fun _=> .inr ⟨_,rfl,rfl,_,rfl,by decide,by decide⟩)⟩ <;> split <;> decide
  rintro v G1 ⟨rfl,z,rfl,z0,z1⟩;obtain ⟨w2,hw2,hc2⟩:=aC3 (x:=3) (y:=1) z0 z1;refine ⟨l0,_,_,.int w2,rfl,rfl,bN.of h4,hw2,d,l,w2,rfl,W4.deal,by omega,by omega,fun tu H5 u0 u1 D5 o5=>⟨_,_,rfl,rfl,?_⟩⟩;have W5:=W4.out D5 o5;have hk5:=bE W4.deal (s4 _ _ hk3) nk o5;obtain ⟨rm,gr⟩:=W5.get_room;obtain ⟨kv6,dp6,W6,o6⟩:=W5.put_room (rm - many);refine ⟨_,rfl,sc,_,rfl,gr,_,rfl,_,_,rfl,rfl,_,rfl,sc,_,rfl,dp6,?_⟩;have hk6:=W5.keep hk5 nk o6;have oB:=oA.trans ((jN.of (S:=[d,l,sc]) s4).trans ((jN.out (sc:=sc) o5).trans o6));generalize aW H5 sc (.dK kv6)=H6 at W6 o6 hk6 oB ⊢;have of2:1<=often * (1+tu):=by have:=Int.mul_pos (show 0 < often by omega) (show 0 < 1+tu by omega);omega
  refine ⟨_,rfl,_,rfl,_,rfl,_,rfl,_,_,rfl,rfl,_,rfl,_,rfl,_,rfl,_,_,rfl,rfl,.inr ⟨by omega,by omega⟩,d,l,sc,nl,kn,xs,ks,kd,_,deep - 1,many,_,rfl,W6,of2,hk6,nk,kx,by omega,by omega,by omega,by omega,by omega,fun p7 pr7 kn7 rs7 k7 lf7 H7 W7 le7 kd7 o7 h7 hp7 hr7 c7 dd7 ok7 q7 n7 hk7 kx7 kl7=>?_⟩;refine ⟨p7,_,rfl,aX.of h7,rfl,_,_,rfl,_,_,rfl,rfl,?_⟩;have n9f:kn7=kn\/H kn7=none:=by
   rcases q7 with e | e
   ·exact .inl e
   ·exact .inr (oB.fresh W6.all e)
  refine ⟨_,rfl,_,rfl,by show 3<=sizeLine;decide,fun q hq=>?_⟩;obtain ⟨H8,e0,s8,h8⟩:=gJ hq (.tup [.str "times",.int (1+tu),.ref pr7]);rw [e0];clear e0;refine ⟨_,rfl,bM,fun p hp=>?_⟩;have s9:=s8.trans (aB hp (.tup [.ref q,.ref kn7]));refine k p kn7 (.times q pr7 (1+tu) rs7) k7 _ _ (W7.same s9) (by simp only [mW];rw [Int.natCast_mul,show (((1+tu).toNat:Nat):Int)=1+tu by omega, <- Int.mul_assoc];exact le7) (iE.one ⟨by omega,by omega⟩ kd7) (oB.trans (o7.trans (.of s9))) aE ⟨(aB hp _) _ _ h8,s9 _ _ hp7,bL.ts (.of s9) _ hr7⟩ ?_ ?_ (iR.one (fun t' ht=>absurd ht List.not_mem_nil) ok7) n9f n7 (s9 _ _ hk7) kx7 ?_
  ·simp only [Rw.cnt,pb];omega
  ·simp only [qR];omega
  ·simp only [pb];omega
 | false =>
 refine bC (by simp) ?_;refine ⟨_,rfl,_,rfl,_,rfl,_,rfl,d,l,7,rfl,W3.deal,by decide,by decide,fun z H4 z0 z1 D4 o4=>⟨_,_,rfl,rfl,?_⟩⟩;have W4:=W3.out D4 o4;have hk4:=bE W3.deal hk3 nk o4;refine ⟨d,l,kn,ks,1+z,rfl,D4,hk4,nk,by omega,by omega,by omega,by show 1+z<=7;omega,fun t H5 D5 o5 h5 nm5 sz5=>⟨by show 3<=sizeLine;decide,fun q hq=>?_⟩⟩;have W5:=W4.out D5 o5;have hk5:=bE D4 hk4 nk o5;have oB:=oA.trans ((jN.out (sc:=sc) o4).trans (jN.out (sc:=sc) o5));obtain ⟨HQ,e0,sQ,hQ⟩:=gJ hq (.tup [.str "let",.str x,.ref t.p]);rw [e0];clear e0;refine ⟨_,rfl,_,rfl,iT,fun l6 hl6=>?_⟩;obtain ⟨H6,e0,s6,h6⟩:=gJ hl6 (.lst [.str x]);rw [e0];clear e0;refine ⟨kn,l6,_,_,rfl,rfl,(sQ.trans s6) _ _ hk5,h6,Nat.le_of_lt (eY (by rw [List.length_map];show ks.length+1<=_;omega)),fun l7 hl7=>⟨bM,fun p hp=>?_⟩⟩;have n7:H l7=none:=oB.fresh W5.all ((sQ.trans s6).free hl7);have n7l:=(cQ (W5.deal.same (sQ.trans s6)) hl7).2
 have s7:=s6.trans ((aB hl7 (.lst (ks.map V.str++[.str x]))).trans (aB hp (.tup [.ref q,.ref l7])));refine k p l7 (.lt q x t) (ks++[x]) _ _ (W5.same (sQ.trans s7)) (by simp only [mW];omega) (iE.one trivial iE.nil) (oB.trans (.of (sQ.trans s7))) aE ⟨s7 _ _ hQ,h5.ts (.of (sQ.trans s7))⟩ pp (Nat.zero_le _) (iR.one (fun t' ht=>?_) iR.nil) (.inr n7) n7l ?_ (fun y hy=>?_) (by rw [List.length_append];show ks.length+1<=_;omega)
 ·rw [List.mem_singleton.mp ht];exact ⟨by omega,fun y hy=>kx y (nm5 y hy)⟩
 ·rw [(aB hp (.tup [.ref q,.ref l7])) _ _ aE,List.map_append];rfl
 ·rcases List.mem_append.mp hy with e | e
  ·exact kx y e
  ·rw [List.mem_singleton.mp e];exact mx
theorem bD9:(["_law_k","_law_deal_here","_law_known"]:List Str).Nodup:=by decide +kernel
theorem tH:aS ["_law_deal_here","_law_world","_law_known","_law_deep","_law_tells","_law_often","_law_rows_here","_law_k","_law_row_here"] ["_law_deal_here","_law_world","_law_known","_law_deep","_law_tells","_law_often"] (aG aK1):=by refine ⟨rfl,rfl,rfl,?_,rfl,?_,?_⟩<;>decide +kernel
theorem uI (m:Nat) {f:Addr}{fd:FuncData}(F:dO K "_law_rows" "_law_rows" aK1 f fd)
  (C_Draw:Cl P w K mg base 1 ["_law_deal_here","_law_many"] spDraw "_law_draw")
  (C_Row:Cl P w K mg base (10+2 * m) ["_law_deal_here","_law_world","_law_known","_law_deep","_law_often"] (aZ0 m) "_law_row")
  (C_Trm:Cl P w K mg base 8 ["_law_deal_here","_law_known","_law_room"] (aU3 7) "_law_term")
  (m_range:mg "range"=none) (m_tuple:mg "tuple"=none) :
  bQ P w K mg base dS (10+2 * m+1) f fd ["_law_deal_here","_law_world","_law_known","_law_deep","_law_tells","_law_often"] (zD m):=by
 refine F.ok tH (fun vs H Q E h=>?_) (fun cdv A outer s H vs Q E hr h=>?_)
 ·obtain ⟨d,l,sc,nl,kn,xs,ks,kd,lf,deep,tells,often,rfl,_⟩:=h;rfl
 obtain ⟨d,l,sc,nl,kn,xs,ks,kd,lf,deep,tells,often,rfl,W0,of1,hk,nk,kx,lk,t0,t2,hm,hd,k⟩:=h;have hu:=kK hr;have hr8:eF 8 _:=hr.mono (by omega);refine ⟨_,(aF (aK (i:=6) tH.nd rfl (Or.inl rfl) (bS aC))
  (aF (dN PassesOwn.never rfl (cY (by rfl) m_range (aA (bR C_Draw hr (aA (pv 0) (aA aD aC))) aC)) (aU (i:=7) tH.nd rfl (Or.inl rfl))
  (aH (bT (aV kU (cB hu (pv 1) aJ (fun _ _=>rfl)) aD (bB _)) (aF (dW hu (pv 1) aJ (aL cZ (cB hu (pv 1) aJ (fun _ _=>rfl)) aD) rfl)
  (aF (fP (bR C_Row hr (aA (pv 0) (aA (pv 1) (aA (pv 2) (aA (pv 3) (aA (pv 5) aC)))))) (fE rfl (bJ (aU (i:=8) tH.nd rfl (Or.inl rfl)) (bJ (aU (i:=2) tH.nd rfl (Or.inr rfl)) dY))))
  (aH (dR (fY PySem.F.plainAttrs_list PySem.F.slot_list_append PySem.F.type_list_append eP (pv 6) (aA (pv 8) aC)))))) bA)))
  (aF (aK (i:=6) tH.nd rfl (Or.inl rfl) (aL gF (pv 6) (dG ["_law_k","_law_deal_here","_law_known"] [none,some 0,some 2] (cY (by rfl) m_range (aA (pv 4) aC)) (fun _ _ _ _=>(aU (i:=0) (bD9) rfl (Or.inl rfl))) (fun _ _ _ _=>fG) (fun _ _ _ _=>(aO (aA aJ (aA (bR C_Trm hr (aA (pv 1) (aA (pv 2) (aA (aL cC aD (bR C_Draw hr (aA (pv 1) (aA aD aC)))) aC)))) aC)))))))
  (aH (aM (aO (aA (bY dD (by rfl) m_tuple PyProof.Rows.boot_tuple (aA (pv 6) aC)) (aA (pv 2) aC)))))))),?_⟩
 have cl:=aY2 m;have ce:=cB2 hm;have pp:=aQ1 m;refine ⟨Nat.zero_le _,fun lr hlr=>?_⟩;have nlr:=(cQ W0.deal hlr).2;have nln:lr≠nl:=(aR W0.nms hlr).symm;have nlk:kn≠lr:=aR hk hlr;obtain ⟨H1,e0,s1,h1⟩:=gJ hlr (.lst []);rw [e0];clear e0;have W1:=W0.same s1;refine ⟨_,rfl,d,l,4,rfl,W1.deal,by decide,by decide,fun n H2 n0 n1 D2 o2=>?_⟩;have W2:=W1.out D2 o2;have h2:=bE W1.deal h1 nlr o2;have hk2:=bE W1.deal (s1 _ _ hk) nk o2;have oA:=(jN.of (S:=[d,l,sc]) s1).trans (jN.out (sc:=sc) o2);refine ⟨n,rfl,by omega,by omega,jK (n:=n.toNat) (fun i σ G=>∃ (rs:List Rw) (knc:Addr) (kc:List Str) (lfc:Int) (v7 v8:Option V),σ=[some (.ref d),some (.ref sc),some (.ref knc),some (.int deep),some (.int tells),some (.int often),some (.ref lr),v7,v8]/\Wd G d l sc nl xs kd lfc/\often * (iZ rs:Int)+lfc<=lf/\iE kd rs/\jN [d,l,sc] H G/\G lr=some (.lst (cI rs))/\bL G rs/\cU rs<=i * pb m/\fF rs<=m/\iR xs rs/\(knc=kn\/H knc=none)/\knc≠l/\knc≠lr/\G knc=some (.lst (kc.map V.str))/\(∀ y∈kc,y∈xs)/\kc.length<=ks.length+i * pb m)
  ⟨[],kn,ks,lf,none,none,rfl,W2,by simp [iZ],iE.nil,oA,h2,trivial,Nat.zero_le _,Nat.zero_le _,iR.nil,.inl rfl,nk,nlk,hk2,kx,Nat.le_add_right _ _⟩ ?_ ?_⟩
 ·rintro D' i σ G hi ⟨rs,knc,kc,lfc,v7,v8,rfl,W3,le3,kd3,o3,g1,hR,hc,hdp,hok,hq,nkl,nkr,gk,kxc,kl⟩;have i1:i+1<=3:=by omega
  have mul1:(i+1) * pb m<=3 * pb m:=Nat.mul_le_mul_right _ i1;have mul2:(i+1) * pb m=i * pb m+pb m:=Nat.succ_mul _ _;have li:=gU rs;obtain ⟨rm,gr⟩:=W3.get_room;refine ⟨_,rfl,sc,_,rfl,gr,_,_,rfl,rfl,_,rfl,lQ (fun _=>?_) (fun _=>⟨rs,knc,kc,lfc,_,_,rfl,W3,le3,kd3,o3,g1,hR,by omega,hdp,hok,hq,nkl,nkr,gk,kxc,by omega⟩)⟩;obtain ⟨kv4,dp4,W4,o4⟩:=W3.put_room (rm - 1);refine ⟨_,rfl,sc,_,rfl,gr,_,_,rfl,rfl,_,rfl,sc,_,rfl,dp4,?_⟩;have g4:=W3.keep g1 nlr o4;have gk4:=W3.keep gk nkl o4;have hR4:=bL.ts (W3.ts o4) rs hR;generalize aW G sc (.dK kv4)=H4 at W4 o4 g4 gk4 hR4 ⊢;refine ⟨_,rfl,_,rfl,_,rfl,_,rfl,_,rfl,d,l,sc,nl,knc,xs,kc,kd,lfc,deep,often,rfl,W4,of1,gk4,nkl,kxc,by omega,hm,hd,fun p8 kn8 r8 k8 lf8 H8 W8 le8 kd8 o8 h8 hr8 c8 dd8 ok8 q8 n8 hk8 kx8 kl8=>?_⟩;refine ⟨p8,_,rfl,aX.of h8,rfl,_,_,rfl,_,_,rfl,rfl,?_⟩;have g8:=W4.keep g4 nlr o8;have hR8:=bL.ts (W4.ts o8) rs hR4;have n8r:kn8≠lr:=by
   rcases q8 with e | e
   ·rw [e];exact nkr
   ·exact (aR g4 e).symm
  have n8f:kn8=kn\/H kn8=none:=by
   rcases q8 with e | e
   ·rw [e];exact hq
   ·exact .inr ((o3.trans o4).fresh W4.all e)
  refine ⟨_,rfl,.inl ⟨rfl,_,bN.of g8⟩,_,rfl,lr,_,_,rfl,rfl,g8,eY (by rw [bW];omega),?_⟩;have W10:=W8.lst (zs:=cI rs++[.ref r8.p]) g8 nlr nln;have tsN:=TS.lst (ys:=cI rs++[.ref r8.p]) g8;have gR:aW H8 lr (.lst (cI rs++[.ref r8.p])) lr=some (.lst (cI (rs++[r8]))):=by rw [aE,fX];rfl
  refine ⟨rs++[r8],kn8,k8,lf8,_,_,rfl,W10,by rw [jM,Int.natCast_add,Int.mul_add];simp only [iZ,Nat.add_zero];omega,iE.app kd3 kd8,(o3.trans (o4.trans o8)).new hlr,gR,bL.app (bL.ts tsN rs hR8) ⟨eT.ts tsN r8 hr8,trivial⟩,?_,?_,iR.app hok ok8,n8f,n8,n8r,(aQ n8r).trans hk8,kx8,by omega⟩
  ·rw [gB];simp only [cU];omega
  ·rw [iS];simp only [fF];omega
 rintro σ G ⟨rs,knc,kc,lfc,v7,v8,rfl,W3,le3,kd3,o3,g1,hR,hc,hdp,hok,hq,nkl,nkr,gk,kxc,kl⟩;have mul1:n.toNat * pb m<=3 * pb m:=Nat.mul_le_mul_right _ (by omega);have li:=gU rs;refine ⟨_,rfl,_,rfl,tells,rfl,by omega,by omega,fR (n:=tells.toNat) (fun i ys σ G=>Wd G d l sc nl xs kd lfc/\jN [d,l,sc] H G/\(∃ v,σ=[v,some (.ref d),some (.ref knc)])/\G lr=some (.lst (cI rs))/\G knc=some (.lst (kc.map V.str))/\bL G rs/\∃ ts:List Rw,ys=cI ts/\ts.length=i/\bL G ts/\cU ts=i/\fF ts=0/\iR xs ts/\iZ ts=0/\iE kd ts)
  (bD (by omega)) ⟨W3,o3,⟨_,rfl⟩,g1,gk,hR,[],rfl,rfl,trivial,rfl,rfl,iR.nil,rfl,iE.nil⟩ (by rintro i ys σ G ⟨_,_,_,_,_,_,ts,e,e2,_⟩;rw [e,bW];omega) ?_ ?_⟩
 ·rintro i ys σ G' hi ⟨W7,o7,⟨v,rfl⟩,g7,gk7,hR7,ts,rfl,hl,hT,hcT,hdT,okT,ldT,kdT⟩;refine ⟨_,rfl,_,rfl,_,rfl,d,l,5,rfl,W7.deal,by decide,by decide,fun y H8 y0 y1 D8 o8=>⟨_,_,rfl,rfl,?_⟩⟩;have W8:=W7.out D8 o8;have gk8:=bE W7.deal gk7 nkl o8;refine ⟨d,l,knc,kc,1+y,rfl,D8,gk8,nkl,by omega,by omega,by omega,by show 1+y<=7;omega,fun t H9 D9 o9 h9 nm9 sz9=>⟨bM,fun p hp=>?_⟩⟩;have s10:=aB hp (.tup [.str "tell",.ref t.p]);have o79:jN [d,l,sc] G' (aW H9 p (.tup [.str "tell",.ref t.p])):=(jN.out (sc:=sc) o8).trans ((jN.out (sc:=sc) o9).trans (.of s10));have ts79:=W7.ts o79;refine ⟨(W8.out D9 o9).same s10,o7.trans o79,⟨_,rfl⟩,W7.keep g7 nlr o79,W7.keep gk7 nkl o79,bL.ts ts79 rs hR7,ts++[.tell p t],by rw [fX];rfl,by rw [List.length_append,hl];rfl,bL.app (qs:=[.tell p t]) (bL.ts ts79 ts hT) ⟨⟨aE,h9.ts (.of s10)⟩,trivial⟩,?_,?_,iR.app okT (iR.one (fun t' ht=>?_) iR.nil),by rw [jM,ldT];rfl,iE.app kdT (iE.one (r:= .tell p t) trivial iE.nil)⟩
  ·rw [gB,hcT];simp only [cU,Rw.cnt]
  ·rw [iS,hdT];simp only [fF,qR];omega
  ·rw [List.mem_singleton.mp ht];exact ⟨by omega,fun y hy=>kxc y (nm9 y hy)⟩
 rintro ys σ G' ⟨W7,o7,_,g7,gk7,hR7,ts,rfl,hl,hT,hcT,hdT,okT,ldT,kdT⟩ lx hlx;obtain ⟨H8,e0,s8,h8⟩:=gJ hlx (.lst (cI ts));rw [e0];clear e0;refine ⟨lr,lx,_,_,rfl,rfl,s8 _ _ g7,h8,Nat.le_of_lt (eY (by rw [bW,bW];omega)),fun lz hlz=>?_⟩;rw [<- fX];have s9:=s8.trans (aB hlz (.lst (cI (rs++ts))));have h9:aW H8 lz (.lst (cI (rs++ts))) lz=some (.lst (cI (rs++ts))):=aE;generalize aW H8 lz (.lst (cI (rs++ts)))=H9 at s9 h9 ⊢;refine ⟨_,rfl,lz,_,rfl,.inl ⟨bN.of h9,fun t ht=>⟨_,rfl,bM,fun p hp=>?_⟩⟩⟩;have sF:=s9.trans ((aB ht (.tup (cI (rs++ts)))).trans (aB hp (.tup [.ref t,.ref knc])));refine k p t knc (rs++ts) kc _ _ (W7.same sF) (by rw [jM,ldT];exact le3) (iE.app kd3 kdT) (o7.trans (.of sF)) aE ((aB hp _) _ _ aE) (bL.app (bL.ts (.of sF) rs hR7) (bL.ts (.of sF) ts hT)) ?_ ?_ (iR.app hok okT) hq nkl (sF _ _ gk7) kxc (by omega)
 ·rw [gB];omega
 ·rw [iS,hdT];omega
theorem kE:aS ["_law_deal_here","_law_kinds","_law_throws","_law_wide","_law_words","_law_many","_law_world","_law_x","_law_tells","_law_rows_here","_law_known","_law_first_one"] ["_law_deal_here","_law_kinds","_law_throws","_law_wide"] (aG aJ3):=by refine ⟨rfl,rfl,rfl,?_,rfl,?_,?_⟩<;>decide +kernel
theorem bQ9 {f:Addr}{fd:FuncData}(F:dO K "_law_program" "_law_program" aJ3 f fd)
  (C_Nms:Cl P w K mg base 2 ["_law_deal_here","_law_many"] spNames "_law_names")
  (C_Thw:Cl P w K mg base 3 ["_law_deal_here","_law_world","_law_x"] spThrow "_law_throw")
  (C_Rws:Cl P w K mg base 17 ["_law_deal_here","_law_world","_law_known","_law_deep","_law_tells","_law_often"] (zD 3) "_law_rows")
  (C_Draw:Cl P w K mg base 1 ["_law_deal_here","_law_many"] spDraw "_law_draw")
  (m_tuple:mg "tuple"=none) :
  bQ P w K mg base dS (18) f fd ["_law_deal_here","_law_kinds","_law_throws","_law_wide"] spPrg:=by
 refine F.ok kE (fun vs H Q E h=>?_) (fun cdv A outer s H vs Q E hr h=>?_)
 ·obtain ⟨d,l,rfl,_⟩:=h;rfl
 obtain ⟨d,l,rfl,D,k⟩:=h;have hu:=kK hr;refine ⟨_,(aF (aK (i:=4) kE.nd rfl (Or.inl rfl) (bR C_Nms hr (aA (pv 0) (aA aD aC))))
  (aF (aK (i:=5) kE.nd rfl (Or.inl rfl) (aL cC aD (bR C_Draw hr (aA (pv 0) (aA (pv 1) aC)))))
  (aF (aK (i:=6) kE.nd rfl (Or.inl rfl) (oK (dJ aJ (eZ mE (pv 4) (fL aD) gQ) (dJ aJ (pv 5) (dJ aJ (pv 3) (dJ aJ (pv 2) (dJ aJ aD (dJ aJ pE (dJ aJ (pv 2) nR))))))) rfl rfl (by decide) (by decide)))
  (aF (aK (i:=7) kE.nd rfl (Or.inl rfl) (bI bZ (pv 4) aD))
  (aF (aK (i:=8) kE.nd rfl (Or.inl rfl) (aL cC aD (bR C_Draw hr (aA (pv 0) (aA aD aC)))))
  (aF (dW hu (pv 6) aJ (aL cZ (aL cZ (cB hu (pv 6) aJ (fun _ _=>rfl)) aD) (pv 8)) rfl)
  (aF (bT (aV cR (bR C_Draw hr (aA (pv 0) (aA aD aC))) aD (bB _)) (aF (fP (bR C_Rws hr (aA (pv 0) (aA (pv 6) (aA (bS (aA (pv 7) aC)) (aA aD (aA (pv 8) (aA aD aC))))))) (fE rfl (bJ (aU (i:=9) kE.nd rfl (Or.inl rfl)) (bJ (aU (i:=10) kE.nd rfl (Or.inl rfl)) dY))))
  (aH (aM (aO (aA (bY dD (by rfl) m_tuple PyProof.Rows.boot_tuple (aA (eZ mE (pv 4) gQ (fL (pv 5))) aC)) (aA (aL uO (aO (aA (aO (aA aJ (aA (pv 7) (aA (aO (aA aJ (aA (bR C_Draw hr (aA (pv 0) (aA aD aC))) aC))) aC)))) aC)) (pv 9)) aC)))))) bA)
  (aF (dW hu (pv 6) aJ (aL cZ (cB hu (pv 6) aJ (fun _ _=>rfl)) aD) rfl)
  (aF (aK (i:=11) kE.nd rfl (Or.inl rfl) (bR C_Thw hr (aA (pv 0) (aA (pv 6) (aA (pv 7) aC)))))
  (aF (fP (bR C_Rws hr (aA (pv 0) (aA (pv 6) (aA (bS (aA (pv 7) aC)) (aA aD (aA (pv 8) (aA aD aC))))))) (fE rfl (bJ (aU (i:=9) kE.nd rfl (Or.inl rfl)) (bJ (aU (i:=10) kE.nd rfl (Or.inl rfl)) dY))))
  (aH (aM (aO (aA (bY dD (by rfl) m_tuple PyProof.Rows.boot_tuple (aA (eZ mE (pv 4) gQ (fL (pv 5))) aC)) (aA (aL uO (aO (aA (pv 11) aC)) (pv 9)) aC))))))))))))))),?_⟩
 refine ⟨_,rfl,d,l,7,rfl,D,by decide,by decide,fun rk xw H1 D1 o1 fk hk1 lk1 so1=>?_⟩;have nrk:=(cQ D fk).2;refine ⟨_,rfl,_,rfl,d,l,3,rfl,D1,by decide,by decide,fun m1 H2 a0 a1 D2 o2=>⟨_,_,rfl,rfl,?_⟩⟩;have rk2:=bE D1 hk1 nrk o2;obtain ⟨x,ys,ecut,ly,eat⟩:=cH8 (xs:=xw) (by omega);have xin:∀ y∈x :: ys,y∈xw:=by
  obtain ⟨zs,e1,_,e3⟩:=aG8 xw (some 3) none;rw [ecut] at e1;intro y hy;have:V.str y∈(zs.map V.str):=by rw [<- e1];exact List.mem_map.mpr ⟨y,hy,rfl⟩
  obtain ⟨z,hz,e⟩:=List.mem_map.mp this;injection e with e
  rw [<- e];exact e3 z hz
 have soX:∀ y∈x :: ys,Lt y:=fun y hy=>so1 y (xin y hy)
 refine fun sc hsc=>?_
 have sc0:H sc=none:=sZ D2 (o1.trans o2) hsc;have nsd:=(cQ D2 hsc).1;obtain ⟨H3,e0,s3,h3⟩:=gJ hsc (.dK []);rw [e0];clear e0;refine ⟨_,rfl,3,rfl,rk,_,rfl,bN.of (s3 _ _ rk2),fun nl hnl=>?_⟩;rw [ecut];have nnl:=(cQ (D2.same s3) hnl).2;have s4:=aB hnl (.lst ((x :: ys).map V.str));have h4:aW H3 nl (.lst ((x :: ys).map V.str)) nl=some (.lst ((x :: ys).map V.str)):=aE;have h34:=s4 _ _ h3;generalize aW H3 nl (.lst ((x :: ys).map V.str))=H4 at s4 h4 h34 ⊢;refine ⟨_,rfl,_,rfl,_,rfl,_,rfl,h34,tT nl (1+m1),rfl,by show 7<=15;decide,?_⟩;have wk:=aZ4 nl (kd:=1+m1) (by omega) (by omega);generalize eJ [] (tT nl (1+m1))=kv5 at wk ⊢;have n54:nl≠sc:=fN h4 h34 (by intro z;cases z);have D4:=(D2.same s3).same s4;have o5:eM d l H (aW H4 sc (.dK kv5)):=fun b u e n1 n2=>by
  rw [aQ (fun z=>by rw [z,sc0] at e;cases e)];exact (s3.trans s4) _ _ ((o1.trans o2) b u e n1 n2)
 have W5:Wd (aW H4 sc (.dK kv5)) d l sc nl (x :: ys) (1+m1) 6:=by
  obtain ⟨sd,kk,ls,z⟩:=id D4;refine ⟨⟨sd,kk,ls,⟨by rw [aQ nsd.symm];exact z.dc,by rw [aQ (fN z.lc h34 (by intro z;cases z))];exact z.lc,z.s0,z.s1,z.n0,z.l0⟩⟩,⟨kv5,aE,wk⟩,by rw [aQ n54];exact h4,nsd,nnl,by simp,by rw [List.length_cons,ly];decide⟩
 have rk4:=(s3.trans s4) _ _ rk2;have rk5:aW H4 sc (.dK kv5) rk=some (.lst (xw.map V.str)):=by rw [aQ (fN rk4 h34 (by intro z;cases z))];exact rk4
 generalize aW H4 sc (.dK kv5)=H5 at o5 W5 rk5 ⊢;refine ⟨_,rfl,rk,_,_,.str x,rfl,rfl,bN.of rk5,eat,?_⟩;refine ⟨_,rfl,d,l,2,rfl,W5.deal,by decide,by decide,fun tz H6 t0 t1 D6 o6=>⟨_,_,rfl,rfl,?_⟩⟩;have W6:=W5.out D6 o6;have rk6:=bE W5.deal rk5 nrk o6;obtain ⟨rm,gr⟩:=W6.get_room;obtain ⟨kv7,dp7,W7,o7⟩:=W6.put_room (rm - 1 - (1+tz));refine ⟨_,rfl,sc,_,rfl,gr,_,_,rfl,rfl,_,rfl,_,_,rfl,rfl,_,rfl,sc,_,rfl,dp7,?_⟩;have rk7:=W6.keep rk6 nrk o7;have oo7:=nY (o5.trans o6) sc0 o7;generalize aW H6 sc (.dK kv7)=H7 at W7 rk7 oo7 ⊢;refine ⟨_,rfl,d,l,3,rfl,W7.deal,by decide,by decide,fun zz H8 _ _ D8 o8=>⟨rfl,_,rfl,?_⟩⟩;have W8:=W7.out D8 o8;have rk8:=bE W7.deal rk7 nrk o8;have oo8:=oo7.trans o8;clear W7 rk7 oo7 o8 D8 W6 rk6 dp7 gr o7 W5 rk5 o5 D6 o6 rk4 D4 h34 h4 s4 s3 h3 wk ecut eat;refine lQ (fun _=>?_) (fun _=>?_)
 ·have WX:=W8;have rkX:=rk8;have oX:=oo8;clear W8 rk8 oo8;generalize H8=HX at WX rkX oX ⊢;refine ⟨_,rfl,_,rfl,_,rfl,iT,fun kn hkn=>?_⟩;have nkl:=(cQ WX.deal hkn).2;have sY:=aB hkn (.lst [.str x]);have hY:aW HX kn (.lst [.str x]) kn=some (.lst (([x]:List Str).map V.str)):=aE;have WY:=WX.same sY;have rkY:=sY _ _ rkX;have oY:=oX.trans (eM.of (d:=d) (l:=l) sY);generalize aW HX kn (.lst [.str x])=HY at sY hY WY rkY oY ⊢;refine ⟨_,rfl,d,l,sc,nl,kn,x :: ys,[x],1+m1,_,3,1+tz,1,rfl,WY,by decide,hY,nkl,(fun y hy=>by rw [List.mem_singleton.mp hy];exact List.mem_cons_self),(by show 1+1295<=5000;decide),by omega,by omega,by decide,rfl,fun pA prA knA rsA kA lfA HA WA leA kdA oA hA hpA hrA cA dA okA qA nA hkA kxA klA=>?_⟩;refine ⟨pA,_,rfl,aX.of hA,rfl,_,_,rfl,_,_,rfl,rfl,?_⟩;have cA:cU rsA<=1295:=cA;have rkA:=WY.keep rkY nrk oA;have tsA:=WY.ts oA;have oZ:=nY oY sc0 oA;refine ⟨_,rfl,_,rfl,_,rfl,rk,_,rfl,bN.of rkA,fun l6 hl6=>⟨l6,_,rfl,.inl ⟨bN.of aE,fun t7 ht7=>?_⟩⟩⟩
  have kcut:∃ ks:List Str,gH (xw.map V.str) none (some (1+m1))=ks.map V.str/\(ks.length:Int)=1+m1:=⟨xw.take (1+m1).toNat,by
   rw [uC (by omega) (by rw [List.length_map];omega),List.map_take],by rw [List.length_take];omega⟩
  obtain ⟨kss,ekss,lkss⟩:=kcut;rw [ekss];rw [ekss] at ht7;have s7:=(aB hl6 (.lst (kss.map V.str))).trans (aB ht7 (.tup (kss.map V.str)));have h77:aW (aW HA l6 (.lst (kss.map V.str))) t7 (.tup (kss.map V.str)) t7=some (.tup (kss.map V.str)):=aE;generalize aW (aW HA l6 (.lst (kss.map V.str))) t7 (.tup (kss.map V.str))=H7 at s7 h77 ⊢;have leA':=leA;rw [Int.one_mul] at leA';have lfA0:=WA.lf0;have kn1:1<=kss.length/\kss.length<=3:=by omega
  have D7:=WA.deal.same s7;have o7:=oZ.trans (eM.of (d:=d) (l:=l) s7);refine ⟨_,rfl,_,rfl,d,l,4,rfl,D7,by decide,by decide,fun nm H9 b0 b1 D9 o9=>⟨bM,fun q1 hq1=>⟨by show 3<=sizeLine;decide,fun q2 hq2=>⟨iT,fun q3 hq3=>?_⟩⟩⟩⟩;have sA1:=aB hq1 (.tup [.str "num",.int nm]);have gA1:aW H9 q1 (.tup [.str "num",.int nm]) q1=some (.tup [.str "num",.int nm]):=aE;generalize aW H9 q1 (.tup [.str "num",.int nm])=HB1 at sA1 gA1 hq2 hq3 ⊢;have sA2:=aB hq2 (.tup [.str "let",.str x,.ref q1]);have gA2:aW HB1 q2 (.tup [.str "let",.str x,.ref q1]) q2=some (.tup [.str "let",.str x,.ref q1]):=aE;generalize aW HB1 q2 (.tup [.str "let",.str x,.ref q1])=HB2 at sA2 gA2 hq3 ⊢;obtain ⟨HB3,e0,sA3,gA3⟩:=gJ hq3 (.tup [.ref q2]);rw [e0];clear e0;have sB:=sA1.trans (sA2.trans sA3);have tB:TS HA HB3:=(TS.of s7).trans ((TS.out D7 o9).trans (.of sB));refine ⟨_,rfl,q3,prA,[.ref q2],cI rsA,rfl,rfl,gA3,tB _ _ hpA,Nat.le_of_lt (eY (by rw [bW];have:=gU rsA;show 1+rsA.length<=_;omega)),fun rz HC sC hC=>⟨bM,fun p hp=>?_⟩⟩
  have sD:=sC.trans (aB hp (.tup [.ref t7,.ref rz]));refine k p (x :: ys) (.lt q2 x (.num q1 nm) :: rsA) _ ((D9.same sB).same sD) (o7.trans (o9.trans (.of (sB.trans sD)))) ⟨⟨_,rz,aE,(aB hp _) _ _ hC⟩,⟨t7,kss,_,aE,(TS.of sD) _ _ ((TS.of sB) _ _ ((TS.out D7 o9) _ _ h77)),kn1.1,kn1.2,by rw [lkss];exact iE.app (rs:=[.lt q2 x (.num q1 nm)]) (iE.one trivial iE.nil) kdA⟩,by show 0+iZ rsA<=6;omega,⟨⟨(sA3.trans sD) _ _ gA2,(sA2.trans (sA3.trans sD)) _ _ gA1⟩,bL.ts (tB.trans (.of sD)) _ hrA⟩,?_,?_,iR.app (rs:=[.lt q2 x (.num q1 nm)]) (iR.one (fun t ht=>?_) iR.nil) okA,by rw [List.length_cons,ly];decide,soX⟩
  ·show 1+cU rsA<=1300;omega
  ·show max 0 (fF rsA)<=3;omega
  ·rw [List.mem_singleton.mp ht];exact ⟨by show 1<=7;decide,fun y hy=>absurd hy List.not_mem_nil⟩
 ·have gl:=W8.get_left;obtain ⟨kv9,dp9,W9,o9⟩:=W8.put_left (6 - 1) (by decide);refine ⟨_,rfl,sc,_,rfl,gl,_,_,rfl,rfl,_,rfl,sc,_,rfl,dp9,?_⟩;have rk9:=W8.keep rk8 nrk o9;have oo9:=nY oo8 sc0 o9;generalize aW H8 sc (.dK kv9)=H9 at W9 rk9 oo9 ⊢;obtain ⟨kvs,hscv,wk9⟩:=W9.scn;refine ⟨_,rfl,_,rfl,_,rfl,d,l,sc,kvs,x,1+m1,rfl,W9.deal,hscv,⟨⟨6,wk9.wd,by decide,by decide⟩,wk9.kd⟩,W9.ne1,fun pt w ws HX DX oX1 hX okX ekd=>?_⟩;have WX:=W9.out DX oX1;have rkX:=bE W9.deal rk9 nrk oX1;have oX:=oo9.trans oX1;clear W9 rk9 oo9 W8 rk8 oo8 o9 dp9 gl hscv;refine ⟨_,rfl,_,rfl,_,rfl,iT,fun kn hkn=>?_⟩;have nkl:=(cQ WX.deal hkn).2;have sY:=aB hkn (.lst [.str x]);have hY:aW HX kn (.lst [.str x]) kn=some (.lst (([x]:List Str).map V.str)):=aE;have WY:=WX.same sY;have rkY:=sY _ _ rkX;have oY:=oX.trans (eM.of (d:=d) (l:=l) sY);generalize aW HX kn (.lst [.str x])=HY at sY hY WY rkY oY ⊢;refine ⟨_,rfl,d,l,sc,nl,kn,x :: ys,[x],1+m1,_,3,1+tz,1,rfl,WY,by decide,hY,nkl,(fun y hy=>by rw [List.mem_singleton.mp hy];exact List.mem_cons_self),(by show 1+1295<=5000;decide),by omega,by omega,by decide,rfl,fun pA prA knA rsA kA lfA HA WA leA kdA oA hA hpA hrA cA dA okA qA nA hkA kxA klA=>?_⟩
  refine ⟨pA,_,rfl,aX.of hA,rfl,_,_,rfl,_,_,rfl,rfl,?_⟩;have cA:cU rsA<=1295:=cA;have rkA:=WY.keep rkY nrk oA;have tsA:=WY.ts oA;have oZ:=nY oY sc0 oA;refine ⟨_,rfl,_,rfl,_,rfl,rk,_,rfl,bN.of rkA,fun l6 hl6=>⟨l6,_,rfl,.inl ⟨bN.of aE,fun t7 ht7=>?_⟩⟩⟩;have kcut:∃ ks:List Str,gH (xw.map V.str) none (some (1+m1))=ks.map V.str/\(ks.length:Int)=1+m1:=⟨xw.take (1+m1).toNat,by
   rw [uC (by omega) (by rw [List.length_map];omega),List.map_take],by rw [List.length_take];omega⟩
  obtain ⟨kss,ekss,lkss⟩:=kcut;rw [ekss];rw [ekss] at ht7;have s7:=(aB hl6 (.lst (kss.map V.str))).trans (aB ht7 (.tup (kss.map V.str)));have h77:aW (aW HA l6 (.lst (kss.map V.str))) t7 (.tup (kss.map V.str)) t7=some (.tup (kss.map V.str)):=aE;generalize aW (aW HA l6 (.lst (kss.map V.str))) t7 (.tup (kss.map V.str))=H7 at s7 h77 ⊢;have leA':=leA;rw [Int.one_mul] at leA';have lfA0:=WA.lf0;have kn1:1<=kss.length/\kss.length<=3:=by omega
  have D7:=WA.deal.same s7;have o7:=oZ.trans (eM.of (d:=d) (l:=l) s7);refine ⟨_,rfl,iT,fun q3 hq3=>?_⟩;obtain ⟨HB3,e0,sA3,gA3⟩:=gJ hq3 (.tup [.ref pt]);rw [e0];clear e0;have tB:TS HA HB3:=(TS.of s7).trans (.of sA3);have tX:TS HX HB3:=(TS.of sY).trans (tsA.trans tB);refine ⟨_,rfl,q3,prA,[.ref pt],cI rsA,rfl,rfl,gA3,tB _ _ hpA,Nat.le_of_lt (eY (by rw [bW];have:=gU rsA;show 1+rsA.length<=_;omega)),fun rz HC sC hC=>⟨bM,fun p hp=>?_⟩⟩;have sD:=sC.trans (aB hp (.tup [.ref t7,.ref rz]));refine k p (x :: ys) (.thr pt w x ws :: rsA) _ ((D7.same sA3).same sD) (o7.trans (.of (sA3.trans sD))) ⟨⟨_,rz,aE,(aB hp _) _ _ hC⟩,⟨t7,kss,_,aE,sD _ _ (sA3 _ _ h77),kn1.1,kn1.2,by rw [lkss];exact iE.app (rs:=[.thr pt w x ws]) (iE.one ekd iE.nil) kdA⟩,by show 1+iZ rsA<=6;omega,⟨⟨(tX.trans (.of sD)) _ _ hX,okX.ts (tX.trans (.of sD))⟩,bL.ts (tB.trans (.of sD)) _ hrA⟩,?_,?_,iR.app (rs:=[.thr pt w x ws]) (iR.one (fun t ht=>absurd ht List.not_mem_nil) iR.nil) okA,by rw [List.length_cons,ly];decide,soX⟩
  ·show 1+cU rsA<=1300;omega
  ·show max 0 (fF rsA)<=3;omega
theorem aB2:aS ["_law_rows_here","_law_found","_law_row_here","_law_inner_here"] ["_law_rows_here"] (aG aN8):=by refine ⟨rfl,rfl,rfl,?_,rfl,?_,?_⟩<;>decide +kernel
theorem bU2 (n:Nat) {f:Addr}{fd:FuncData}(F:dO K "_law_listed" "_law_listed" aN8 f fd)
  (C_Lst:Cl P w K mg base (n+1) ["_law_rows_here"] (xA n) "_law_listed")
   :
  bQ P w K mg base dS (n+1+1) f fd ["_law_rows_here"] (xA (n+1)):=by
 refine F.ok aB2 (fun vs H Q E h=>?_) (fun cdv A outer s H vs Q E hr h=>?_)
 ·obtain ⟨p,rs,rfl,_⟩:=h;rfl
 obtain ⟨p,rs,rfl,hp,hR,hc,hdp,k⟩:=h;have hr1:eF 1 _:=hr.mono (by omega);refine ⟨_,(aF (aK (i:=1) aB2.nd rfl (Or.inl rfl) (bS aC))
  (aF (dN PassesOwn.never rfl (mX (pv 0)) (aU (i:=2) aB2.nd rfl (Or.inl rfl))
  (aF (dR (fY PySem.F.plainAttrs_list PySem.F.slot_list_append PySem.F.type_list_append eP (pv 1) (aA (pv 2) aC)))
  (aH (bT (aV cH (bI aI (pv 2) aD) (aO (aA aJ (aA aJ aC))) rfl) (aH (dN PassesOwn.never rfl (mX (eZ aT5 (pv 2) (fL aD) gQ)) (aU (i:=3) aB2.nd rfl (Or.inl rfl))
  (aH (dR (fY PySem.F.plainAttrs_list PySem.F.slot_list_extend PySem.F.type_list_extend fT (pv 1) (aA (bR C_Lst hr (aA (pv 3) aC)) aC)))))) bA))))
  (aH (aM (pv 1))))),?_⟩
 refine ⟨Nat.zero_le _,fun lf hlf=>?_⟩;obtain ⟨H1,e0,s1,h1⟩:=gJ hlf (.lst []);rw [e0];clear e0;refine ⟨_,rfl,p,rfl,⟨_,aX.of (s1 _ _ hp)⟩,pN (K:=K) (a:=p) (xs:=cI rs) (fun i σ G=>∃ (v2 v3:Option V),σ=[some (.ref p),some (.ref lf),v2,v3]/\aZ H G/\G lf=some (.lst (cI (bK (rs.take i)))))
  ⟨_,_,rfl,s1,h1⟩ (by rintro i σ G _ ⟨_,_,_,e,_⟩;exact aX.of (e _ _ hp)) ?_ ?_⟩
 ·rintro D' i v σ G hv ⟨v2,v3,rfl,s2,g2⟩;obtain ⟨r,rfl,hr0⟩:=jH hv;have mr:=List.mem_of_getElem? hr0;have ct:=wJ (rs:=rs) i;have c1:=wJ (rs:=rs) (i+1);rw [<- eQ,sK hr0,List.length_append,List.length_cons] at c1;have fl:=eQ (rs.take i);refine ⟨_,rfl,.inl ⟨rfl,_,bN.of g2⟩,_,rfl,lf,_,_,rfl,rfl,g2,eY (by rw [bW];omega),?_⟩;have s3:=cX (ys:=cI (bK (rs.take i))++[.ref r.p]) s2 hlf;have g3:aW G lf (.lst (cI (bK (rs.take i))++[.ref r.p])) lf=some (.lst (cI (bK (rs.take i)++[r]))):=by rw [aE,fX];rfl
  generalize aW G lf (.lst (cI (bK (rs.take i))++[.ref r.p]))=G3 at s3 g3 ⊢;have hr1:=eT.ts (.of s3) r (hR.mem r mr);refine ⟨_,rfl,r.p,_,_,.str r.w,rfl,rfl,aX.of hr1.at,jG,bM,fun t4 ht4=>?_⟩;have s4:=s3.trans (aB ht4 (.tup [.str "when",.str "times"]));have g4:=(aB ht4 (.tup [.str "when",.str "times"])) _ _ g3;refine ⟨t4,[.str "when",.str "times"],rfl,.inr (aX.of aE),rfl,by decide,_,rfl,?_⟩;generalize aW G3 t4 (.tup [.str "when",.str "times"])=G4 at s4 g4 ⊢;have hr4:=eT.ts (.of s4) r (hR.mem r mr);have ei:lC (V.str r.w) [.str "when",.str "times"]=decide (r.w∈(["when","times"]:List Str)):=cJ _ ["when","times"];rw [sK hr0]
  by_cases c:r.w∈(["when","times"]:List Str)
  ·refine bO (ei.trans (decide_eq_true c)) ?_;obtain ⟨v0,hrow,inn⟩:=bL5 hr4 c;have dr:=aF2 mr;have cr:=oH mr;refine ⟨_,rfl,2,rfl,r.p,_,rfl,aX.of hrow,zA _ _ _,fun t5 ht5=>?_⟩;rw [bA4];have s5:=s4.trans (aB ht5 (.tup (r.inn.map fun e=>V.ref e.1)));have h5:aW G4 t5 (.tup (r.inn.map fun e=>V.ref e.1)) t5=some (.tup (r.inn.map fun e=>V.ref e.1)):=aE;have g5:=(aB ht5 (.tup (r.inn.map fun e=>V.ref e.1))) _ _ g4;have t45:=TS.of (aB ht5 (.tup (r.inn.map fun e=>V.ref e.1)));have n5:lf≠t5:=aR g4 ht5;generalize aW G4 t5 (.tup (r.inn.map fun e=>V.ref e.1))=G5 at s5 h5 g5 t45 ⊢;refine ⟨t5,rfl,⟨_,aX.of h5⟩,pN (K:=K) (a:=t5) (xs:=r.inn.map fun e=>V.ref e.1) (fun j σ G=>∃ (v3:Option V),σ=[some (.ref p),some (.ref lf),some (.ref r.p),v3]/\aZ H G/\TS G5 G/\G lf=some (.lst (cI (bK (rs.take i)++[r]++(r.inn.take j).flatMap fun e=>bK e.2))))
    ⟨_,rfl,s5,fun _ _ e=>e,by rw [g5];simp⟩ (by rintro j σ G _ ⟨_,_,_,e,_⟩;exact aX.of (e _ _ h5)) ?_ ?_⟩
   ·rintro D2 j v σ G6 hv ⟨v3,rfl,s6,t6,g6⟩;obtain ⟨e,rfl,he⟩:∃ e,v=V.ref e.1/\r.inn[j]?=some e:=by
     rw [List.getElem?_map] at hv
     cases q:r.inn[j]? with
     | none=>rw [q] at hv;cases hv
     | some e=>rw [q] at hv;exact ⟨e,(Option.some.inj hv).symm,rfl⟩
    obtain ⟨i1,i2,i3,i4⟩:=inn e (List.mem_of_getElem? he);have fe:(r.inn.take (j+1)).flatMap (fun e=>bK e.2)=(r.inn.take j).flatMap (fun e=>bK e.2)++bK e.2:=by
     rw [bF he,List.flatMap_append];simp
    have tt:=t45.trans t6
    cases n with
    | zero=>exact absurd hdp (by omega)
    | succ n =>
    refine ⟨_,rfl,.inl ⟨rfl,_,bN.of g6⟩,_,rfl,e.1,e.2,rfl,tt _ _ i1,bL.ts tt _ i2,by omega,by omega,fun r7 H7 s7 n7 h7=>?_⟩;refine ⟨lf,r7,_,_,rfl,rfl,s7 _ _ g6,h7,Nat.le_of_lt (eY ?_),_,rfl,cX (s6.trans s7) hlf,t6.trans ((TS.of s7).trans (TS.lst (s7 _ _ g6))),?_⟩
    ·have z:=xJ r;have z2:=congrArg List.length z;have z3:((r.inn.take j).flatMap fun e=>bK e.2).length<=(r.inn.flatMap fun e=>bK e.2).length:=by
      have q:r.inn=r.inn.take j++r.inn.drop j:=(List.take_append_drop _ _).symm;have q2:=congrArg (fun l=>(l.flatMap fun e=>bK e.2).length) q;simp only [List.flatMap_append,List.length_append] at q2;omega
     have z4:=eQ e.2;simp only [bW,List.length_append,List.length_cons,List.length_nil];omega
    ·rw [aE, <- fX,fe,List.append_assoc _ _ (bK e.2)]
   ·rintro σ G6 ⟨v3,rfl,s6,t6,g6⟩;rw [List.length_map,List.take_length] at g6;refine ⟨_,_,rfl,s6,?_⟩;rw [g6, <- xJ,List.append_assoc];rfl
  ·refine bC (fun z=>c (of_decide_eq_true (ei.symm.trans z))) ?_;refine ⟨_,_,rfl,s4,?_⟩;rw [bH7 c];exact g4
 ·rintro σ G ⟨v2,v3,rfl,s2,g2⟩;rw [bW,List.take_length] at g2;exact ⟨_,rfl,k lf G s2 hlf g2⟩
theorem cA3:aS ["_law_term_here"] ["_law_term_here"] (aG aO0):=by refine ⟨rfl,rfl,rfl,?_,rfl,?_,?_⟩<;>decide +kernel
theorem bX1 (n:Nat) {f:Addr}{fd:FuncData}(F:dO K "_law_names_in" "_law_names_in" aO0 f fd)
  (C_Nin:Cl P w K mg base (n+1) ["_law_term_here"] (aC6 n) "_law_names_in")
   :
  bQ P w K mg base dS (n+1+1) f fd ["_law_term_here"] (aC6 (n+1)):=by
 refine F.ok cA3 (fun vs H Q E h=>?_) (fun cdv A outer s H vs Q E hr h=>?_)
 ·obtain ⟨t,rfl,_⟩:=h;rfl
 obtain ⟨t,rfl,ht,h7,hn,k⟩:=h;refine ⟨_,(aF (bT (aV cR (bI aI (pv 0) aD) aJ (bB _)) (aH (aM (bS (aA (bI aI (pv 0) aD) aC)))) bA)
  (aF (bT (aV cR (bI aI (pv 0) aD) aJ (bB _)) (aH (aM (aL gF (bR C_Nin hr (aA (bI aI (pv 0) aD) aC)) (bR C_Nin hr (aA (bI aI (pv 0) aD) aC))))) bA)
  (aH (aM (bS aC))))),?_⟩
 refine ⟨_,rfl,t.p,_,_,.str t.w,rfl,rfl,aX.of ht.at,jG,rfl,_,rfl,?_⟩;generalize hP:t.p=P
 cases t with
 | nam p x =>
  obtain rfl:p=P:=hP;refine bO (decide_eq_true rfl) ?_;exact ⟨_,rfl,p,_,_,.str x,rfl,rfl,aX.of ht,rfl,iT,fun l hl=>k l _ (aB hl _) aE⟩
 | num p m =>
  obtain rfl:p=P:=hP;refine bC (fun z=>wMN (of_decide_eq_true z)) ?_;refine ⟨_,rfl,p,_,_,.str "num",rfl,rfl,aX.of ht,rfl,rfl,_,rfl,?_⟩;refine bC (fun z=>cD9 (of_decide_eq_true z)) ?_;exact ⟨Nat.zero_le _,fun l hl=>k l _ (aB hl _) aE⟩
 | op p s a b =>
  obtain rfl:p=P:=hP;refine bC (fun z=>wOM (of_decide_eq_true z)) ?_;refine ⟨_,rfl,p,_,_,.str "op",rfl,rfl,aX.of ht.1,rfl,rfl,_,rfl,?_⟩;refine bO (decide_eq_true rfl) ?_;have a1:=a.size_pos;have b1:=b.size_pos;have an:=a.names_len;have bn:=b.names_len;simp only [Tm.size] at h7 hn
  cases n with
  | zero=>exact absurd hn (by omega)
  | succ n =>
  refine ⟨_,rfl,p,_,_,.ref a.p,rfl,rfl,aX.of ht.1,rfl,a,rfl,ht.2.1,by omega,by omega,fun r1 H1 s1 h1=>?_⟩;refine ⟨_,rfl,p,_,_,.ref b.p,rfl,rfl,aX.of (s1 _ _ ht.1),rfl,b,rfl,ht.2.2.ts (.of s1),by omega,by omega,fun r2 H2 s2 h2=>?_⟩;refine ⟨r1,r2,_,_,rfl,rfl,s2 _ _ h1,h2,Nat.le_of_lt (eY (by rw [List.length_map,List.length_map];omega)),fun l hl=>k l _ (s1.trans (s2.trans (aB hl _))) ?_⟩;rw [aE, <- List.map_append];rfl
theorem bA9:(["_law_y","_law_found"]:List Str).Nodup:=by decide +kernel
theorem nC:aS ["_law_program_here","_law_rows_here","_law_found","_law_row_here","_law_turn"] ["_law_program_here"] (aG aL1):=by refine ⟨rfl,rfl,rfl,?_,rfl,?_,?_⟩<;>decide +kernel
theorem bR1 {f:Addr}{fd:FuncData}(F:dO K "_law_needed" "_law_needed" aL1 f fd)
  (C_Lst:Cl P w K mg base 5 ["_law_rows_here"] (xA 4) "_law_listed")
  (C_Nin:Cl P w K mg base 8 ["_law_term_here"] (aC6 7) "_law_names_in")
  (m_range:mg "range"=none) (m_sorted:mg "sorted"=none) (m_len:mg "len"=none) (m_set:mg "set"=none) :
  bQ P w K mg base dS (9) f fd ["_law_program_here"] spLNd:=by
 refine F.ok nC (fun vs H Q E h=>?_) (fun cdv A outer s H vs Q E hr h=>?_)
 ·obtain ⟨p,xs,rs,rfl,_⟩:=h;rfl
 obtain ⟨p,xs,rs,rfl,P0,k⟩:=h;have hr1:eF 1 _:=hr.mono (by decide);refine ⟨_,(aF (aK (i:=1) nC.nd rfl (Or.inl rfl) (bR C_Lst hr (aA (bI aI (pv 0) aD) aC)))
  (aF (aK (i:=2) nC.nd rfl (Or.inr rfl) (bS aC))
  (aF (dN PassesOwn.never rfl (dC (pv 1)) (aU (i:=3) nC.nd rfl (Or.inl rfl))
  (aH (bT (aV cH (bI aI (pv 3) aD) (aO (aA aJ (aA aJ aC))) rfl) (aH (aK (i:=2) nC.nd rfl (Or.inr rfl) (aL gF (pv 2) (bR C_Nin hr (aA (bI aI (pv 3) aD) aC))))) bA)))
  (aF (dN PassesOwn.never rfl (cY (by rfl) m_range (aA (bV cG (by rfl) m_len PySem.boot_len (aA (pv 1) aC)) aC)) (aU (i:=4) nC.nd rfl (Or.inl rfl))
  (aH (dN PassesOwn.never rfl (dC (pv 1)) (aU (i:=3) nC.nd rfl (Or.inl rfl))
  (aH (bT (iO (PW.pt (iG (aV cR (bI aI (pv 3) aD) aJ (bB _)) (gT (aV cH (bI aI (pv 3) aD) (pv 2) rfl))))) (aH (aK (i:=2) nC.nd rfl (Or.inr rfl) (aL gF (pv 2) (dG ["_law_y","_law_found"] [none,some 2] (dC (bR C_Nin hr (aA (bI aI (pv 3) aD) aC))) (fun _ _ _ _=>(aU (i:=0) (bA9) rfl (Or.inl rfl))) (fun _ _ _ _=>(pB (aV (cG1 K) (pv 0) (pv 1) rfl))) (fun _ _ _ _=>(pv 0)))))) bA)))))
  (aH (aM (bV (uW P w hr1) (by rfl) m_sorted PyProof.Rows.boot_sorted (aA (bY (aL6 P w hr1) (by rfl) m_set PyProof.Rows.boot_set (aA (pv 2) aC)) aC)))))))),?_⟩
 have f13:=P0.fl;have okf:=P0.okf;have fll:=eQ rs;have c0:=P0.cnt;have hdp:=P0.dp;obtain ⟨v0,pr,hp,hpr⟩:=P0.ex;refine ⟨_,rfl,p,_,_,.ref pr,rfl,rfl,aX.of hp,rfl,pr,rs,rfl,hpr,P0.rows,by omega,Nat.lt_succ_of_le hdp,fun r1 H1 s1 n1 h1=>?_⟩;have rH:=bL.ts (.of s1) _ (bL.flat rs P0.rows);have k':∀ (r:Addr) (ss:List Str) (H':Hp),aZ H H'->H' r=some (.lst (ss.map V.str))->ss.Nodup->PyProof.Rows.sortedS ss=true->(∀ x,x∈ss↔jS (bK rs) x)->Q (.ref r) H':=fun r ss H' a b c d e=>k r ss H' a b ⟨c,d,e⟩
 clear k;generalize bK rs=fl at f13 okf h1 rH k';refine ⟨Nat.zero_le _,fun lf hlf=>?_⟩;obtain ⟨H2,e0,s2,h2⟩:=gJ hlf (.lst []);rw [e0];clear e0;refine ⟨_,rfl,r1,rfl,⟨_,bN.of (s2 _ _ h1)⟩,eU (K:=K) (a:=r1) (xs:=cI fl) (fun i σ G=>∃ (lf:Addr) (v3 v4:Option V),σ=[some (.ref p),some (.ref r1),some (.ref lf),v3,v4]/\aZ H1 G/\G lf=some (.lst (((fl.take i).flatMap Rw.told).map V.str)))
  ⟨lf,_,_,rfl,s2,h2⟩ (by rintro i σ G _ ⟨_,_,_,_,e,_⟩;exact bN.of (e _ _ h1)) ?_ ?_⟩
 ·rintro D' i v σ G hv ⟨lf,v3,v4,rfl,s5,h5⟩;obtain ⟨r,rfl,hr0⟩:=jH hv;have mr:=List.mem_of_getElem? hr0;have il:=(List.getElem?_eq_some_iff.mp hr0).1;have hr1:=eT.ts (.of s5) r (rH.mem r mr);have tl:=kM (fl:=fl.take i) (fun r hr=>okf r (List.mem_of_mem_take hr));rw [List.length_take] at tl;refine ⟨_,rfl,r.p,_,_,.str r.w,rfl,rfl,aX.of hr1.at,jG,bM,fun t2 ht2=>?_⟩;have s6:=aB ht2 (.tup [.str "tell",.str "when"]);refine ⟨t2,[.str "tell",.str "when"],rfl,.inr (aX.of aE),rfl,by decide,_,rfl,?_⟩;generalize aW G t2 (.tup [.str "tell",.str "when"])=G6 at s6 ⊢;have ei:lC (V.str r.w) [.str "tell",.str "when"]=decide (r.w∈(["tell","when"]:List Str)):=cJ _ ["tell","when"];rw [aD3 hr0]
  by_cases c:r.w∈(["tell","when"]:List Str)
  ·refine bO (ei.trans (decide_eq_true c)) ?_;obtain ⟨t,vs,hrow,htm,etm,etl⟩:=bM5 (eT.ts (.of s6) r hr1) c;have okt:=okf r mr t (by rw [etm];exact List.mem_singleton.mpr rfl);have nl:=t.names_len;refine ⟨_,rfl,_,rfl,r.p,_,_,.ref t.p,rfl,rfl,aX.of hrow,at1,t,rfl,htm,okt.1,okt.1,fun q H7 s7 h7=>?_⟩;refine ⟨lf,q,_,_,rfl,rfl,(s6.trans s7) _ _ h5,h7,Nat.le_of_lt (sA (by rw [List.length_map,List.length_map];omega)),fun l8 hl8=>⟨l8,_,_,rfl,s5.trans (s6.trans (s7.trans (aB hl8 _))),?_⟩⟩;rw [aE,etl,List.map_append]
  ·refine bC (fun z=>c (of_decide_eq_true (ei.symm.trans z))) ?_;refine ⟨lf,_,_,rfl,s5.trans s6,?_⟩;rw [wO c,List.append_nil];exact s6 _ _ h5
 rintro σ G ⟨lf,v3,v4,rfl,s5,h5⟩;rw [bW,List.take_length] at h5;refine ⟨_,rfl,r1,_,rfl,.inl (bN.of (s5 _ _ h1)),_,rfl,by omega,by rw [bW];omega,jK (n:=(cI fl).length) (fun i σ G=>∃ (lf:Addr) (v3 v4:Option V),σ=[some (.ref p),some (.ref r1),some (.ref lf),v3,v4]/\aZ H1 G/\G lf=some (.lst ((iI fl i).map V.str)))
  ⟨lf,_,_,rfl,s5,h5⟩ ?_ ?_⟩
 ·rintro D' i σ G' hi ⟨lf,v3,v4,rfl,s6,h6⟩;rw [bW] at hi;have rl:=vP okf i;have rl2:(i+1) * (7 * fl.length)<=1300 * (7 * fl.length):=Nat.mul_le_mul_right _ (by omega);refine ⟨_,rfl,r1,rfl,⟨_,bN.of (s6 _ _ h1)⟩,eU (K:=K) (a:=r1) (xs:=cI fl) (fun j σ G=>∃ (lf:Addr) (v3:Option V),σ=[some (.ref p),some (.ref r1),some (.ref lf),v3,some (.int (0+(i:Int)))]/\aZ H1 G/\G lf=some (.lst ((yQ (fl.take j) (iI fl i)).map V.str)))
   ⟨lf,_,rfl,s6,h6⟩ (by rintro j σ G _ ⟨_,_,_,e,_⟩;exact bN.of (e _ _ h1)) ?_ ?_⟩
  ·rintro D2 j v σ G7 hv ⟨lf,v3,rfl,s7,h7⟩;obtain ⟨r,rfl,hr0⟩:=jH hv;have mr:=List.mem_of_getElem? hr0;have jl:=(List.getElem?_eq_some_iff.mp hr0).1;have hr1:=eT.ts (.of s7) r (rH.mem r mr);have rl3:=uY (fl.take j) (iI fl i) fun r hr=>okf r (List.mem_of_mem_take hr)
   rw [List.length_take] at rl3;rw [aR5 hr0];generalize yQ (fl.take j) (iI fl i)=F at h7 rl3 ⊢;refine ⟨fun b G'=>G'=G7/\(b=true->∃ p x t,r= .lt p x t/\x∈F)/\(b=false->st1 F r=F),?_,?_⟩
   ·refine ⟨_,rfl,r.p,_,_,.str r.w,rfl,rfl,aX.of hr1.at,jG,rfl,_,rfl,?_⟩
    by_cases c:r.w="let"
    ·refine bO (by rw [c];exact decide_eq_true rfl) ?_;obtain ⟨p',x,t,rfl⟩:=aS0 hr1 c;refine ⟨_,rfl,p',_,_,.str x,rfl,rfl,aX.of hr1.1,at1,_,rfl,lf,_,rfl,.inl (bN.of h7),rfl,eA _,_,rfl,rfl,fun z=>⟨p',x,t,rfl,of_decide_eq_true ((cJ _ _).symm.trans z)⟩,fun z=>?_⟩;have z:=of_decide_eq_false ((cJ _ _).symm.trans z);exact if_neg z
    ·refine bC (fun z=>c (by have z:=of_decide_eq_true z;injection z)) ⟨rfl,(fun z=>absurd z (by decide)),fun _=>?_⟩
     cases r with
     | lt p x t=>exact absurd rfl c
     | _=>rfl
   rintro b G' ⟨rfl,hb1,hb2⟩
   cases b with
   | false =>
    refine bC (by simp) ?_;rw [hb2 rfl];exact ⟨lf,_,rfl,s7,h7⟩
   | true =>
    refine bO rfl ?_;obtain ⟨p',x,t,rfl,hx⟩:=hb1 rfl;have okt:=okf _ mr t (List.mem_singleton.mpr rfl);have nl:=t.names_len;rw [show st1 F (.lt p' x t)=F++t.names.filter (fun x=> !decide (x∈F)) from if_pos hx];have nf:=List.length_filter_le (fun x=> !decide (x∈F)) t.names;refine ⟨_,rfl,_,rfl,p',_,_,.ref t.p,rfl,rfl,aX.of hr1.1,rfl,t,rfl,hr1.2,okt.1,okt.1,fun q H8 s8 h8=>⟨q,rfl,⟨_,bN.of h8⟩,eO (K:=K) (a:=q) (xs:=t.names.map V.str) (fun i ys σ G=>G=H8/\(∃ v,σ=[v,some (.ref lf)])/\ys=((t.names.take i).filter fun x=> !decide (x∈F)).map V.str)
     (eY (by rw [List.length_map];omega)) ⟨rfl,⟨_,rfl⟩,rfl⟩ (fun i ys σ G ⟨_,_,e⟩=>by
      rw [e,List.length_map];exact Nat.le_trans (List.length_filter_le _ _) (by rw [List.length_take];omega)) (by rintro i ys σ G _ ⟨e,_⟩;rw [e];exact bN.of h8) ?_ ?_⟩⟩
    ·rintro i v ys σ G hv ⟨rfl,⟨v',rfl⟩,rfl⟩;obtain ⟨y,rfl,hy⟩:=mH hv;refine ⟨_,rfl,_,rfl,lf,_,rfl,.inl (bN.of (s8 _ _ h7)),rfl,eA _,_,rfl,?_⟩;rw [lI,bF hy,List.filter_append,List.map_append]
     by_cases c:(!decide (y∈F))=true
     ·refine bO c ⟨_,rfl,rfl,⟨_,rfl⟩,?_⟩;rw [List.filter_cons_of_pos (p:=fun x=> !decide (x∈F)) c];rfl
     ·refine bC c ⟨rfl,⟨_,rfl⟩,?_⟩;rw [List.filter_cons_of_neg (p:=fun x=> !decide (x∈F)) c];simp
    rintro ys σ G9 ⟨rfl,_,rfl⟩ l9 hl9;rw [List.length_map,List.take_length];generalize t.names.filter (fun x=> !decide (x∈F))=nz at nf ⊢;obtain ⟨H9,e0,s9,h9⟩:=gJ hl9 (.lst (nz.map V.str));rw [e0];clear e0;refine ⟨lf,l9,_,_,rfl,rfl,(s8.trans s9) _ _ h7,h9,Nat.le_of_lt (sA (by rw [List.length_map,List.length_map];omega)),fun l10 hl10=>⟨l10,_,rfl,s7.trans (s8.trans (s9.trans (aB hl10 _))),?_⟩⟩;rw [aE,List.map_append]
  ·rintro σ G7 ⟨lf,v3,rfl,s7,h7⟩;rw [bW,List.take_length] at h7;exact ⟨lf,_,_,rfl,s7,h7⟩
 ·rintro σ G' ⟨lf,v3,v4,rfl,s6,h6⟩;rw [bW] at h6;have don:=aJ7 fl;generalize iI fl fl.length=F at h6 don;have fx:∀ x∈F,x∈xs:=fun x hx=>oN okf ((don x).mp hx)
  have xl:=P0.xl;refine ⟨_,rfl,lf,F,rfl,bN.of h6,fun ds nd sub=>?_,fun a ha=>⟨a,F,rfl,aE,fun ds nd mem=>?_,fun ts' nd mem st l hl=>?_⟩⟩
  ·have:=nS (xs:=tk xs) nd fun j hj=>by
    obtain ⟨x,hx,e⟩:=List.mem_map.mp (sub j hj);exact List.mem_map.mpr ⟨x,fx x hx,e⟩
   rw [List.length_map] at this;omega
  ·have:=nS nd fun x hx=>fx x ((mem x).mp hx)
   omega
  ·exact k' l ts' _ (s1.trans (s6.trans ((aB ha _).trans (aB hl _)))) aE nd st fun x=>(mem x).trans (don x)
theorem cB8:aS ["_law_row_here","_law_names_here"] ["_law_row_here","_law_names_here"] (aG aF6):=by refine ⟨rfl,rfl,rfl,?_,rfl,?_,?_⟩<;>decide +kernel
theorem bR8 {f:Addr}{fd:FuncData}(F:dO K "_law_idle" "_law_idle" aF6 f fd)
   :
  bQ P w K mg base dS (1) f fd ["_law_row_here","_law_names_here"] spLId:=by
 refine F.ok cB8 (fun vs H Q E h=>?_) (fun cdv A outer s H vs Q E hr h=>?_)
 ·obtain ⟨r,np,ss,rfl,_⟩:=h;rfl
 obtain ⟨r,np,ss,rfl,hr0,hn,k⟩:=h;refine ⟨_,(@aH _ _ _ (aM (lA (dX cH (bI aI (pv 0) aD) (@aO _ _ _ _ _ (@aA _ _ _ _ _ aJ (@aA _ _ _ _ _ aJ (@aA _ _ _ _ _ aJ (@aA _ _ _ _ _ aJ (@aA _ _ _ _ _ aJ aC rfl) rfl) rfl) rfl) rfl)) rfl) (mS (dX gP (bI aI (pv 0) aD) (pv 1) rfl))))),?_⟩;refine ⟨_,rfl,r.p,_,_,.str r.w,rfl,rfl,aX.of hr0.at,jG,by show 5<=sizeLine;decide,fun t2 ht2=>?_⟩;have s6:=aB ht2 (.tup [.str "ladder",.str "flat",.str "choose",.str "first",.str "let"]);refine ⟨t2,[.str "ladder",.str "flat",.str "choose",.str "first",.str "let"],rfl,.inr (aX.of aE),rfl,by decide,_,rfl,?_⟩;generalize aW H t2 (.tup [.str "ladder",.str "flat",.str "choose",.str "first",.str "let"])=G6 at s6 ⊢;have ei:lC (V.str r.w) [.str "ladder",.str "flat",.str "choose",.str "first",.str "let"]=decide (r.w∈(["ladder","flat","choose","first","let"]:List Str)):=cJ _ ["ladder","flat","choose","first","let"];rw [bF9 hr0] at ei
 cases e:r.sets with
 | none =>
  rw [e] at ei;rw [wV e] at k;exact bC (fun z=>absurd (ei.symm.trans z) (by decide)) (k _ s6)
 | some x =>
  rw [e] at ei;rw [vA e] at k;obtain ⟨vs,hv⟩:=aF1 hr0 e;refine bO ei ?_;refine ⟨_,rfl,r.p,_,_,.str x,rfl,rfl,aX.of (s6 _ _ hv),at1,_,rfl,np,_,rfl,.inl (bN.of (s6 _ _ hn)),rfl,eA _,?_⟩;rw [lI];exact k _ s6
theorem sT:aS ["_law_deal_here","_law_words","_law_many","_law_rows_here","_law_k","_law_told"] ["_law_deal_here"] (aG aL2):=by refine ⟨rfl,rfl,rfl,?_,rfl,?_,?_⟩<;>decide +kernel
theorem bN8 {f:Addr}{fd:FuncData}(F:dO K "_law_chain" "_law_chain" aL2 f fd)
  (C_Nms:Cl P w K mg base 2 ["_law_deal_here","_law_many"] spNames "_law_names")
  (C_Draw:Cl P w K mg base 1 ["_law_deal_here","_law_many"] spDraw "_law_draw")
  (C_Thw:Cl P w K mg base 3 ["_law_deal_here","_law_world","_law_x"] spThrow "_law_throw")
  (m_range:mg "range"=none) (m_tuple:mg "tuple"=none) (m_min:mg "min"=none) :
  bQ P w K mg base dS (4) f fd ["_law_deal_here"] spChn:=by
 refine F.ok sT (fun vs H Q E h=>?_) (fun cdv A outer s H vs Q E hr h=>?_)
 ·obtain ⟨d,l,rfl,_⟩:=h;rfl
 obtain ⟨d,l,rfl,D,k⟩:=h;refine ⟨_,(aF (aK (i:=1) sT.nd rfl (Or.inl rfl) (bR C_Nms hr (aA (pv 0) (aA aD aC))))
  (aF (aK (i:=2) sT.nd rfl (Or.inl rfl) (aL cC aD (bR C_Draw hr (aA (pv 0) (aA aD aC)))))
  (aF (aK (i:=3) sT.nd rfl (Or.inl rfl) (bS (aA (bR C_Thw hr (aA (pv 0) (aA (oK (dJ aJ aD (dJ aJ aD nR)) rfl rfl (by decide) (by decide)) (aA (bI bZ (pv 1) aD) aC)))) aC)))
  (aF (dN PassesOwn.never rfl (cY (by rfl) m_range (aA (pv 2) aC)) (aU (i:=4) sT.nd rfl (Or.inl rfl))
  (aH (dR (fY PySem.F.plainAttrs_list PySem.F.slot_list_append PySem.F.type_list_append eP (pv 3) (aA (aO (aA aJ (aA (bI bZ (pv 1) (aL cC aD (pv 4))) (aA (aO (aA aJ (aA aJ (aA (aO (aA aJ (aA (bI bZ (pv 1) (aL cC aD (pv 4))) aC))) (aA (aO (aA aJ (aA (pv 4) aC))) aC))))) aC)))) aC)))))
  (aF (aK (i:=5) sT.nd rfl (Or.inl rfl) (aL cZ (pv 2) (bR C_Draw hr (aA (pv 0) (aA (bV (mR rfl) (by rfl) m_min PyProof.Rows.boot_min (aA aD (aA (aL cC (pv 2) aD) aC))) aC)))))
  (aH (aM (aO (aA (bY dD (by rfl) m_tuple PyProof.Rows.boot_tuple (aA (eZ mE (pv 1) gQ (fL aD)) aC)) (aA (aL uO (bY dD (by rfl) m_tuple PyProof.Rows.boot_tuple (aA (pv 3) aC)) (aO (aA (aO (aA aJ (aA (aO (aA aJ (aA (bI bZ (pv 1) (aL cC aD (pv 5))) aC))) aC))) aC))) aC)))))))))),?_⟩
 refine ⟨_,rfl,d,l,12,rfl,D,by decide,by decide,fun rk xw H1 D1 o1 fk hk1 lk1 so1=>?_⟩;have nrk:=(cQ D fk).2;refine ⟨_,rfl,d,l,10,rfl,D1,by decide,by decide,fun m1 H2 a0 a1 D2 o2=>⟨_,_,rfl,rfl,?_⟩⟩;have rk2:=bE D1 hk1 nrk o2;have oo2:=o1.trans o2;refine ⟨_,rfl,fun sc hsc=>?_⟩;have nsd:=(cQ D2 hsc).1;refine ⟨aE,[((Sum.inr "kinds": Key),V.int 1),((Sum.inr "wide": Key),V.int 4)],rfl,by show 2<=15;decide,?_⟩;rw [zU];have wk:=bO5;generalize eJ [] [((Sum.inr "kinds": Key),V.int 1),((Sum.inr "wide": Key),V.int 4)]=kv at wk ⊢;obtain ⟨H3,e0,s3,h3⟩:=gJ hsc (.dK kv);rw [e0];clear e0;obtain ⟨x1,e1,mx1⟩:=oG (xs:=xw) (i:=1) (by decide) (by omega);refine ⟨_,rfl,rk,_,_,.str x1,rfl,rfl,bN.of (s3 _ _ rk2),e1,d,l,sc,kv,x1,1,rfl,D2.same s3,h3,wk,nsd,fun pt w ws H4 D4 o4 h4 ok4 ekd=>⟨iT,fun lr hlr=>?_⟩⟩;have oo4:=oo2.trans ((eM.of (d:=d) (l:=l) s3).trans o4);have nlr:=(cQ D4 hlr).2;have flr:H lr=none:=sZ D4 oo4 hlr
 have rk4:=bE (D2.same s3) (s3 _ _ rk2) nrk o4;have nkr:rk≠lr:=aR rk4 hlr;have s5:=aB hlr (.lst [.ref pt]);have h5:aW H4 lr (.lst [.ref pt]) lr=some (.lst (cI [.thr pt w x1 ws])):=aE;have h45:=s5 _ _ h4;have rk5:=s5 _ _ rk4;have D5:=D4.same s5;have oo5:=oo4.trans (eM.of (d:=d) (l:=l) s5);generalize aW H4 lr (.lst [.ref pt])=H5 at s5 h5 h45 rk5 D5 oo5 ⊢;refine ⟨_,rfl,1+m1,rfl,by omega,by omega,jK (n:=(1+m1).toNat) (fun i σ G=>∃ (rs:List Rw) (v4 v5:Option V),σ=[some (.ref d),some (.ref rk),some (.int (1+m1)),some (.ref lr),v4,v5]/\eB G d l/\eM d l H G/\G rk=some (.lst (xw.map V.str))/\G lr=some (.lst (cI rs))/\bL G rs/\cU rs=i+1/\fF rs=0/\iR xw rs/\iZ rs=1/\iE 1 rs)
  ⟨[.thr pt w x1 ws],_,_,rfl,D5,oo5,rk5,h5,⟨⟨h45,ok4.ts (.of s5)⟩,trivial⟩,rfl,rfl,iR.one (fun t ht=>absurd ht List.not_mem_nil) iR.nil,rfl,iE.one ekd iE.nil⟩ ?_ ?_⟩
 ·rintro D' i σ G hi ⟨rs,v4,v5,rfl,D6,o6,rk6,h6,hR,hc,hdp,hok,hld,hkd⟩;have li:=gU rs;obtain ⟨x2,e2,mx2⟩:=oG (xs:=xw) (i:=2+(0+(i:Int))) (by omega) (by omega);obtain ⟨x3,e3,mx3⟩:=oG (xs:=xw) (i:=1+(0+(i:Int))) (by omega) (by omega);refine ⟨_,rfl,.inl ⟨rfl,_,bN.of h6⟩,_,rfl,_,rfl,_,_,rfl,rfl,rk,_,_,.str x2,rfl,rfl,bN.of rk6,e2,_,rfl,_,rfl,_,_,rfl,rfl,rk,_,_,.str x3,rfl,rfl,bN.of rk6,e3,bM,fun q1 hq1=>⟨_,rfl,bM,fun q2 hq2=>⟨by show 4<=sizeLine;decide,fun q3 hq3=>⟨by show 3<=sizeLine;decide,fun q4 hq4=>?_⟩⟩⟩⟩;have t1:=aB hq1 (.tup [.str "name",.str x3]);have g1:aW G q1 (.tup [.str "name",.str x3]) q1=some (.tup [.str "name",.str x3]):=aE;generalize aW G q1 (.tup [.str "name",.str x3])=G1 at t1 g1 hq2 hq3 hq4 ⊢;have t2:=aB hq2 (.tup [.str "num",.int (0+(i:Int))]);have g2:aW G1 q2 (.tup [.str "num",.int (0+(i:Int))]) q2=some (.tup [.str "num",.int (0+(i:Int))]):=aE;generalize aW G1 q2 (.tup [.str "num",.int (0+(i:Int))])=G2 at t2 g2 hq3 hq4 ⊢
  have t3:=aB hq3 (.tup [.str "op",.str "+",.ref q1,.ref q2]);have g3:aW G2 q3 (.tup [.str "op",.str "+",.ref q1,.ref q2]) q3=some (.tup [.str "op",.str "+",.ref q1,.ref q2]):=aE;generalize aW G2 q3 (.tup [.str "op",.str "+",.ref q1,.ref q2])=G3 at t3 g3 hq4 ⊢;obtain ⟨G4,e0,t4,g4⟩:=gJ hq4 (.tup [.str "let",.str x2,.ref q3]);rw [e0];clear e0;have t14:=t1.trans (t2.trans (t3.trans t4));have h64:=t14 _ _ h6;refine ⟨lr,_,_,rfl,rfl,h64,eY (by rw [bW];omega),?_⟩;have tz:=TS.lst (ys:=cI rs++[.ref q4]) h64;refine ⟨rs++[.lt q4 x2 (.op q3 "+" (.nam q1 x3) (.num q2 (0+(i:Int))))],_,_,rfl,wX (D6.same t14) h64 nlr,aC2 (o6.trans (eM.of t14)) flr,(aQ nkr).trans (t14 _ _ rk6),by rw [aE,fX];rfl,bL.app (qs:=[.lt q4 x2 (.op q3 "+" (.nam q1 x3) (.num q2 (0+(i:Int))))]) (bL.ts ((TS.of t14).trans tz) rs hR) ⟨⟨tz _ _ g4,tz _ _ (t4 _ _ g3),tz _ _ ((t2.trans (t3.trans t4)) _ _ g1),tz _ _ ((t3.trans t4) _ _ g2)⟩,trivial⟩,?_,?_,iR.app hok (iR.one (fun t ht=>?_) iR.nil),by rw [jM,hld];rfl,iE.app hkd (iE.one (r:= .lt q4 x2 (.op q3 "+" (.nam q1 x3) (.num q2 (0+(i:Int))))) trivial iE.nil)⟩
  ·rw [gB,hc];rfl
  ·rw [iS,hdp];rfl
  ·rw [List.mem_singleton.mp ht];refine ⟨by simp only [Tm.size];decide,fun y hy=>?_⟩;have hy:y∈([x3]:List Str):=by simpa [Tm.names] using hy
   rw [List.mem_singleton.mp hy];exact mx3
 ·rintro σ G ⟨rs,v4,v5,rfl,D6,o6,rk6,h6,hR,hc,hdp,hok,hld,hkd⟩;have li:=gU rs;obtain ⟨mn,hmn,n0,n1,n2⟩:∃ mn:Int,(if 1+m1+1 < (3:Int) then 1+m1+1 else 3)=mn/\1<=mn/\mn<=3/\mn<=2+m1:=⟨_,rfl,by split <;> omega,by split <;> omega,by split <;> omega⟩
  refine ⟨_,rfl,_,rfl,_,rfl,_,_,rfl,rfl,3,1+m1+1,rfl,?_⟩;rw [hmn];refine ⟨d,l,mn,rfl,D6,by omega,by omega,fun z H7 z0 z1 D7 o7=>⟨_,_,rfl,rfl,?_⟩⟩;have rk7:=bE D6 rk6 nrk o7;have h7:=bE D6 h6 nlr o7;obtain ⟨x4,e4,mx4⟩:=oG (xs:=xw) (i:=1+(1+m1 - z)) (by omega) (by omega);refine ⟨_,rfl,1,rfl,rk,_,rfl,bN.of rk7,fun l8 hl8=>⟨l8,_,rfl,.inl ⟨bN.of aE,fun t8 ht8=>?_⟩⟩⟩;have kcut:∃ ks:List Str,gH (xw.map V.str) none (some 1)=ks.map V.str/\ks.length=1:=⟨xw.take 1,by
   rw [uC (by omega) (by rw [List.length_map];omega),List.map_take];rfl,by rw [List.length_take];omega⟩
  obtain ⟨kss,ekss,lkss⟩:=kcut;rw [ekss] at ht8 ⊢;have s8:=(aB hl8 (.lst (kss.map V.str))).trans (aB ht8 (.tup (kss.map V.str)));have h88:aW (aW H7 l8 (.lst (kss.map V.str))) t8 (.tup (kss.map V.str)) t8=some (.tup (kss.map V.str)):=aE;generalize aW (aW H7 l8 (.lst (kss.map V.str))) t8 (.tup (kss.map V.str))=H8 at s8 h88 ⊢;refine ⟨_,rfl,lr,_,rfl,.inl ⟨bN.of (s8 _ _ h7),fun t9 ht9=>?_⟩⟩;have h89:=(aB ht9 (.tup (cI rs))) _ _ h88;have s9:=s8.trans (aB ht9 (.tup (cI rs)));have h9:aW H8 t9 (.tup (cI rs)) t9=some (.tup (cI rs)):=aE;generalize aW H8 t9 (.tup (cI rs))=H9 at s9 h9 h89 ⊢;refine ⟨_,rfl,_,rfl,_,_,rfl,rfl,rk,_,_,.str x4,rfl,rfl,bN.of (s9 _ _ rk7),e4,bM,fun q1 hq1=>⟨bM,fun q2 hq2=>⟨iT,fun q3 hq3=>?_⟩⟩⟩;have t1:=aB hq1 (.tup [.str "name",.str x4]);have g1:aW H9 q1 (.tup [.str "name",.str x4]) q1=some (.tup [.str "name",.str x4]):=aE;generalize aW H9 q1 (.tup [.str "name",.str x4])=G1 at t1 g1 hq2 hq3 ⊢
  have t2:=aB hq2 (.tup [.str "tell",.ref q1]);have g2:aW G1 q2 (.tup [.str "tell",.ref q1]) q2=some (.tup [.str "tell",.ref q1]):=aE;generalize aW G1 q2 (.tup [.str "tell",.ref q1])=G2 at t2 g2 hq3 ⊢;obtain ⟨G3,e0,t3,g3⟩:=gJ hq3 (.tup [.ref q2]);rw [e0];clear e0;have t13:=t1.trans (t2.trans t3);refine ⟨t9,q3,cI rs,[.ref q2],rfl,rfl,t13 _ _ h9,g3,Nat.le_of_lt (eY (by rw [bW];show rs.length+1<=_;omega)),fun rz HC sC hC=>⟨bM,fun p hp=>?_⟩⟩;have sD:=sC.trans (aB hp (.tup [.ref t8,.ref rz]));have sE:=s9.trans (t13.trans sD);have tE:=(TS.out D6 o7).trans (TS.of sE);refine k p xw (rs++[.tell q2 (.nam q1 x4)]) _ (D7.same sE) (o6.trans (o7.trans (.of sE))) ⟨⟨_,rz,aE,?_⟩,⟨t8,kss,_,aE,(t13.trans sD) _ _ h89,by omega,by omega,by rw [lkss];exact iE.app hkd (iE.one (r:= .tell q2 (.nam q1 x4)) trivial iE.nil)⟩,by rw [jM,hld];show 1+0<=6;decide,bL.app (qs:=[.tell q2 (.nam q1 x4)]) (bL.ts tE rs hR) ⟨⟨(t3.trans sD) _ _ g2,(t2.trans (t3.trans sD)) _ _ g1⟩,trivial⟩,?_,?_,iR.app hok (iR.one (fun t ht=>?_) iR.nil),by omega,so1⟩
  ·rw [(aB hp _) _ _ hC,fX];rfl
  ·rw [gB,hc];show (1+m1).toNat+1+1<=1300;omega
  ·rw [iS,hdp];show max 0 (max 0 0)<=3;decide
  ·rw [List.mem_singleton.mp ht];refine ⟨by show 1<=7;decide,fun y hy=>?_⟩;have hy:y∈([x4]:List Str):=hy;rw [List.mem_singleton.mp hy];exact mx4
theorem aB6:aS ["one","other","remainder"] ["one","other"] (aG aO9):=by refine ⟨rfl,rfl,rfl,?_,rfl,?_,?_⟩<;>decide +kernel
theorem bS9 {f:Addr}{fd:FuncData}(F:dO K "common_divisor" "common_divisor" aO9 f fd)
   :
  bQ P w K mg base dS (1) f fd ["one","other"] spGcd:=by
 refine F.ok aB6 (fun vs H Q E h=>?_) (fun cdv A outer s H vs Q E hr h=>?_)
 ·obtain ⟨a,b,rfl,_⟩:=h;rfl
 obtain ⟨a,b,rfl,ha,hb,k⟩:=h;refine ⟨_,(aF (fK PassesOwn.never (aV bK4 (pv 1) aD (bB _))
  (aF (aK (i:=2) aB6.nd rfl (Or.inl rfl) (aL fO (pv 0) (pv 1)))
  (aF (aK (i:=0) aB6.nd rfl (Or.inl rfl) (pv 1))
  (aH (aK (i:=1) aB6.nd rfl (Or.inl rfl) (pv 2))))))
  (aH (aM (pv 0)))),?_⟩
 refine ⟨fun j σ H1=>H1=H/\∃ (x y:Int) (r:Option V),σ=[some (.int x),some (.int y),r]/\0<=x/\0<=y/\gI x y=gI a b/\j=y.toNat,⟨_,rfl,a,b,none,rfl,ha,hb,rfl,rfl⟩,?_⟩;rintro j σ H1 ⟨rfl,x,y,r,rfl,hx,hy,hg,rfl⟩;refine ⟨_,rfl,rfl,_,rfl,?_⟩
 by_cases y0:y=0
 ·subst y0;refine cE2 rfl ⟨_,rfl,?_⟩;rw [<- hg,aE7 hx] at k;exact k
 ·have yp:0 < y:=by omega
  have e:(!decide (V.int y=V.int 0))=true:=by simp [y0]
  rw [e];refine ⟨fun σ' H'=>H'=H1/\∃ r',σ'=[some (.int y),some (.int (x % y)),r'],fun σ' H' ⟨e1,r',e2⟩=>⟨(x % y).toNat,?_,e1,y,x % y,r',e2,hy,Int.emod_nonneg _ y0,(wC hx yp).trans hg,rfl⟩,?_⟩
  ·have:=Int.emod_lt_of_pos x yp;have:=Int.emod_nonneg x y0;omega
  ·exact ⟨_,rfl,_,rfl,_,_,rfl,rfl,yp,_,rfl,_,rfl,rfl,_,rfl⟩
theorem bK7:aS ["top","bottom","divisor"] ["top","bottom"] (aG aP5):=by refine ⟨rfl,rfl,rfl,?_,rfl,?_,?_⟩<;>decide +kernel
theorem bQ7 {f:Addr}{fd:FuncData}(F:dO K "lowest" "lowest" aP5 f fd)
  (C_Gcd:Cl P w K mg base 1 ["one","other"] spGcd "common_divisor")
   :
  bQ P w K mg base dS (2) f fd ["top","bottom"] spLowX:=by
 refine F.ok bK7 (fun vs H Q E h=>?_) (fun cdv A outer s H vs Q E hr h=>?_)
 ·obtain ⟨a,b,rfl,_⟩:=h;rfl
 obtain ⟨a,b,rfl,ha,hb,hz,k⟩:=h;refine ⟨_,(aF (aK (i:=2) bK7.nd rfl (Or.inl rfl) (bR C_Gcd hr (aA (pv 0) (aA (pv 1) aC))))
  (aH (aM (aO (aA (aL lT (pv 0) (pv 2)) (aA (aL lT (pv 1) (pv 2)) aC)))))),?_⟩
 have g0:0 < gI a b:=qB hb;obtain ⟨n,hn,hn2⟩:=hz;have g1:∃ n,cE n (gI a b)/\n<=8990:=⟨n,Nat.lt_of_le_of_lt (by have:=bJ8 (a:=a) hb;omega) hn,hn2⟩
 refine ⟨_,rfl,_,rfl,a,b,rfl,ha,by omega,?_⟩;exact ⟨_,rfl,_,rfl,_,_,rfl,rfl,⟨g0,g1⟩,_,rfl,_,rfl,_,_,rfl,rfl,⟨g0,g1⟩,bM,fun p hp=>k p hp⟩
theorem bI6:aS ["_law_one","_law_other"] ["_law_one","_law_other"] (aG aL3):=by refine ⟨rfl,rfl,rfl,?_,rfl,?_,?_⟩<;>decide +kernel
theorem bP1 {f:Addr}{fd:FuncData}(F:dO K "_law_common" "_law_common" aL3 f fd)
   :
  bQ P w K mg base dS (1) f fd ["_law_one","_law_other"] spGcd:=by
 refine F.ok bI6 (fun vs H Q E h=>?_) (fun cdv A outer s H vs Q E hr h=>?_)
 ·obtain ⟨a,b,rfl,_⟩:=h;rfl
 obtain ⟨a,b,rfl,ha,hb,k⟩:=h;refine ⟨_,(aF (fK PassesOwn.never (aV kU (pv 1) aD (bB _))
  (aH (bN4 (i:=0) (j:=1) rfl bI6.nd rfl rfl (by decide) rfl rfl (aA (pv 1) (aA (aL fO (pv 0) (pv 1)) aC)) rfl)))
  (aH (aM (pv 0)))),?_⟩
 refine ⟨fun j σ H1=>H1=H/\∃ (x y:Int),σ=[some (.int x),some (.int y)]/\0<=x/\0<=y/\gI x y=gI a b/\j=y.toNat,⟨_,rfl,a,b,rfl,ha,hb,rfl,rfl⟩,?_⟩;rintro j σ H1 ⟨rfl,x,y,rfl,hx,hy,hg,rfl⟩;refine ⟨_,rfl,_,_,rfl,rfl,_,rfl,?_⟩;refine lQ (fun c=>?_) (fun c=>?_)
 ·have yp:0 < y:=of_decide_eq_true c;refine ⟨fun σ' H'=>H'=H1/\σ'=[some (.int y),some (.int (x % y))],fun σ' H' ⟨e1,e2⟩=>⟨(x % y).toNat,?_,e1,y,x % y,e2,hy,Int.emod_nonneg _ (by omega),(wC hx yp).trans hg,rfl⟩,?_⟩
  ·have:=Int.emod_lt_of_pos x yp;have:=Int.emod_nonneg x (show y≠0 by omega);omega
  ·exact ⟨_,rfl,_,rfl,_,rfl,_,_,rfl,rfl,yp,_,_,rfl,rfl,rfl⟩
 ·have y0:y=0:=by
   have:¬ 0 < y:=fun z=>c (decide_eq_true z)
   omega
  subst y0;rw [<- hg,aE7 hx] at k;exact ⟨_,rfl,k⟩
theorem bJ7:aS ["_law_top","_law_bottom","_law_d"] ["_law_top","_law_bottom"] (aG aK7):=by refine ⟨rfl,rfl,rfl,?_,rfl,?_,?_⟩<;>decide +kernel
theorem bM3 {f:Addr}{fd:FuncData}(F:dO K "_law_lowest" "_law_lowest" aK7 f fd)
  (C_LGc:Cl P w K mg base 1 ["_law_one","_law_other"] spGcd "_law_common")
   :
  bQ P w K mg base dS (2) f fd ["_law_top","_law_bottom"] spLowX:=by
 refine F.ok bJ7 (fun vs H Q E h=>?_) (fun cdv A outer s H vs Q E hr h=>?_)
 ·obtain ⟨a,b,rfl,_⟩:=h;rfl
 obtain ⟨a,b,rfl,ha,hb,hz,k⟩:=h;refine ⟨_,(aF (aK (i:=2) bJ7.nd rfl (Or.inl rfl) (bR C_LGc hr (aA (pv 0) (aA (pv 1) aC))))
  (aH (aM (aO (aA (aL lT (pv 0) (pv 2)) (aA (aL lT (pv 1) (pv 2)) aC)))))),?_⟩
 have g0:0 < gI a b:=qB hb;obtain ⟨n,hn,hn2⟩:=hz;have g1:∃ n,cE n (gI a b)/\n<=8990:=⟨n,Nat.lt_of_le_of_lt (by have:=bJ8 (a:=a) hb;omega) hn,hn2⟩
 refine ⟨_,rfl,_,rfl,a,b,rfl,ha,by omega,?_⟩;exact ⟨_,rfl,_,rfl,_,_,rfl,rfl,⟨g0,g1⟩,_,rfl,_,rfl,_,_,rfl,rfl,⟨g0,g1⟩,bM,fun p hp=>k p hp⟩
theorem bX8:aS ["one","other"] ["one","other"] (aG aL0):=by refine ⟨rfl,rfl,rfl,?_,rfl,?_,?_⟩<;>decide +kernel
theorem bR0 {f:Addr}{fd:FuncData}(F:dO K "added" "added" aL0 f fd)
  (C_Low:Cl P w K mg base 2 ["top","bottom"] spLowX "lowest")
   :
  bQ P w K mg base dS (3) f fd ["one","other"] (tY K):=by
 refine F.ok bX8 (fun vs H Q E h=>?_) (fun cdv A outer s H vs Q E hr h=>?_)
 ·obtain ⟨p,q,u,e,rfl,_⟩:=h;rfl
 obtain ⟨p,q,⟨a,b⟩,⟨c,d⟩,rfl,hp,hq,fu,fe,k⟩:=h;refine ⟨_,(aH (aM (bR C_Low hr (aA (aL cC (aL cV (bI aI (pv 0) aD) (bI aI (pv 1) aD)) (aL cV (bI aI (pv 1) aD) (bI aI (pv 0) aD))) (aA (aL cV (bI aI (pv 0) aD) (bI aI (pv 1) aD)) aC))))),?_⟩;have bd:0 < b * d:=Int.mul_pos (show 0 < b by have:=fu.b;exact this) (show 0 < d by have:=fe.b;exact this);have m1:0<=a * d:=Int.mul_nonneg fu.a (Int.le_trans (by decide) fe.b);have m2:0<=c * b:=Int.mul_nonneg fe.a (Int.le_trans (by decide) fu.b);refine ⟨_,rfl,p,_,_,_,rfl,rfl,hp,qX a b,_,rfl,q,_,_,_,rfl,rfl,hq,mL c d,_,_,rfl,rfl,⟨1000,1000,fu.ba,fe.bb,by decide,by decide⟩,?_⟩;refine ⟨_,rfl,q,_,_,_,rfl,rfl,hq,qX c d,_,rfl,p,_,_,_,rfl,rfl,hp,mL a b,_,_,rfl,rfl,⟨1000,1000,fe.ba,fu.bb,by decide,by decide⟩,_,_,rfl,rfl,?_⟩;refine ⟨_,rfl,p,_,_,_,rfl,rfl,hp,mL a b,_,rfl,q,_,_,_,rfl,rfl,hq,mL c d,_,_,rfl,rfl,⟨1000,1000,fu.bb,fe.bb,by decide,by decide⟩,?_⟩;exact ⟨_,_,rfl,Int.add_nonneg m1 m2,bd,⟨1000+1000,cE.mul fu.bb fe.bb,by decide⟩,k⟩
theorem bZ4:aS ["one","other"] ["one","other"] (aG aK5):=by refine ⟨rfl,rfl,rfl,?_,rfl,?_,?_⟩<;>decide +kernel
theorem bS7 {f:Addr}{fd:FuncData}(F:dO K "times" "times" aK5 f fd)
  (C_Low:Cl P w K mg base 2 ["top","bottom"] spLowX "lowest")
   :
  bQ P w K mg base dS (3) f fd ["one","other"] (lD K):=by
 refine F.ok bZ4 (fun vs H Q E h=>?_) (fun cdv A outer s H vs Q E hr h=>?_)
 ·obtain ⟨p,q,u,e,rfl,_⟩:=h;rfl
 obtain ⟨p,q,⟨a,b⟩,⟨c,d⟩,rfl,hp,hq,fu,fe,k⟩:=h;refine ⟨_,(aH (aM (bR C_Low hr (aA (aL cV (bI aI (pv 0) aD) (bI aI (pv 1) aD)) (aA (aL cV (bI aI (pv 0) aD) (bI aI (pv 1) aD)) aC))))),?_⟩;have bd:0 < b * d:=Int.mul_pos (show 0 < b by have:=fu.b;exact this) (show 0 < d by have:=fe.b;exact this);refine ⟨_,rfl,p,_,_,_,rfl,rfl,hp,qX a b,_,rfl,q,_,_,_,rfl,rfl,hq,qX c d,_,_,rfl,rfl,⟨1000,1000,fu.ba,fe.ba,by decide,by decide⟩,?_⟩;refine ⟨_,rfl,p,_,_,_,rfl,rfl,hp,mL a b,_,rfl,q,_,_,_,rfl,rfl,hq,mL c d,_,_,rfl,rfl,⟨1000,1000,fu.bb,fe.bb,by decide,by decide⟩,?_⟩;exact ⟨_,_,rfl,Int.mul_nonneg fu.a fe.a,bd,⟨1000+1000,cE.mul fu.bb fe.bb,by decide⟩,k⟩
theorem bE3:aS ["one","other"] ["one","other"] (aG mO):=by refine ⟨rfl,rfl,rfl,?_,rfl,?_,?_⟩<;>decide +kernel
theorem aW9 {f:Addr}{fd:FuncData}(F:dO K "minus" "minus" mO f fd)
  (C_Low:Cl P w K mg base 2 ["top","bottom"] spLowX "lowest")
   :
  bQ P w K mg base dS (3) f fd ["one","other"] spMinus:=by
 refine F.ok bE3 (fun vs H Q E h=>?_) (fun cdv A outer s H vs Q E hr h=>?_)
 ·obtain ⟨p,q,a,b,c,d,rfl,_⟩:=h;rfl
 obtain ⟨p,q,a,b,c,d,rfl,hp,hq,ha,hb,hc,hd,b1,d1,hle,k⟩:=h;refine ⟨_,(aH (aM (bR C_Low hr (aA (aL cZ (aL kP (bI aI (pv 0) aD) (bI aI (pv 1) aD)) (aL kP (bI aI (pv 1) aD) (bI aI (pv 0) aD))) (aA (aL kP (bI aI (pv 0) aD) (bI aI (pv 1) aD)) aC))))),?_⟩;have m2:=tZ hb.1 hb.2 hd.1 hd.2;have m3:1<=b * d:=by have:=Int.mul_pos (show 0 < b by omega) (show 0 < d by omega);omega
 refine ⟨_,rfl,p,_,_,_,rfl,rfl,aX.of hp,qX a b,_,rfl,q,_,_,_,rfl,rfl,aX.of hq,mL c d,_,_,rfl,rfl,⟨ha.below,hd.below⟩,?_⟩;refine ⟨_,rfl,q,_,_,_,rfl,rfl,aX.of hq,qX c d,_,rfl,p,_,_,_,rfl,rfl,aX.of hp,mL a b,_,_,rfl,rfl,⟨hc.below,hb.below⟩,_,_,rfl,rfl,?_⟩;refine ⟨_,rfl,p,_,_,_,rfl,rfl,aX.of hp,mL a b,_,rfl,q,_,_,_,rfl,rfl,aX.of hq,mL c d,_,_,rfl,rfl,⟨hb.below,hd.below⟩,?_⟩;exact ⟨_,_,rfl,by omega,m3,⟨180+180,cE.of m2.1 m2.2,by decide⟩,k⟩
theorem cE4:aS ["one","other"] ["one","other"] (aG aI6):=by refine ⟨rfl,rfl,rfl,?_,rfl,?_,?_⟩<;>decide +kernel
theorem bQ4 {f:Addr}{fd:FuncData}(F:dO K "less" "less" aI6 f fd)
   :
  bQ P w K mg base dS (1) f fd ["one","other"] (nQ K):=by
 refine F.ok cE4 (fun vs H Q E h=>?_) (fun cdv A outer s H vs Q E hr h=>?_)
 ·obtain ⟨p,q,u,e,rfl,_⟩:=h;rfl
 obtain ⟨p,q,⟨a,b⟩,⟨c,d⟩,rfl,hp,hq,fu,fe,k⟩:=h;refine ⟨_,(aH (aM (dX oU (aL cV (bI aI (pv 0) aD) (bI aI (pv 1) aD)) (aL cV (bI aI (pv 1) aD) (bI aI (pv 0) aD)) (bB _)))),?_⟩;refine ⟨_,rfl,p,_,_,_,rfl,rfl,hp,qX a b,_,rfl,q,_,_,_,rfl,rfl,hq,mL c d,_,_,rfl,rfl,⟨1000,1000,fu.ba,fe.bb,by decide,by decide⟩,?_⟩;exact ⟨_,rfl,q,_,_,_,rfl,rfl,hq,qX c d,_,rfl,p,_,_,_,rfl,rfl,hp,mL a b,_,_,rfl,rfl,⟨1000,1000,fe.ba,fu.bb,by decide,by decide⟩,_,_,rfl,rfl,k⟩
theorem aE2:aS ["_law_n","_law_k","_law_found","_law_j"] ["_law_n","_law_k"] (aG aH9):=by refine ⟨rfl,rfl,rfl,?_,rfl,?_,?_⟩<;>decide +kernel
theorem bP5 {f:Addr}{fd:FuncData}(F:dO K "_law_pow" "_law_pow" aH9 f fd)
  (m_range:mg "range"=none) :
  bQ P w K mg base dS (1) f fd ["_law_n","_law_k"] spPowI:=by
 refine F.ok aE2 (fun vs H Q E h=>?_) (fun cdv A outer s H vs Q E hr h=>?_)
 ·obtain ⟨a,n,rfl,_⟩:=h;rfl
 obtain ⟨a,n,rfl,a0,a9,n0,n1,k⟩:=h;refine ⟨_,(aF (aK (i:=2) aE2.nd rfl (Or.inl rfl) aD)
  (aF (dN PassesOwn.never rfl (cY (by rfl) m_range (aA (pv 1) aC)) (aU (i:=3) aE2.nd rfl (Or.inl rfl))
  (aH (aK (i:=2) aE2.nd rfl (Or.inl rfl) (aL kP (pv 2) (pv 0)))))
  (aH (aM (pv 2))))),?_⟩
 refine ⟨_,rfl,_,rfl,by omega,by omega,jD (n:=n.toNat) (fun i σ H1=>H1=H/\∃ v,σ=[some (.int a),some (.int n),some (.int (a ^ i)),v])
  ⟨rfl,none,by rw [Int.pow_zero];rfl⟩ ?_ ?_⟩
 ·rintro i σ H1 hi ⟨rfl,v,rfl⟩;have e1:=zR (n:=i) a0 a9 (by omega);refine ⟨_,rfl,_,rfl,_,_,rfl,rfl,⟨⟨by omega,by omega⟩,⟨by omega,by omega⟩⟩,?_⟩;refine ⟨rfl,some (.int (0+(i:Int))),?_⟩;rw [Int.pow_succ];rfl
 ·rintro σ H1 ⟨rfl,v,rfl⟩;exact ⟨_,rfl,k⟩
theorem cC6:aS ["_law_one","_law_other"] ["_law_one","_law_other"] (aG aH8):=by refine ⟨rfl,rfl,rfl,?_,rfl,?_,?_⟩<;>decide +kernel
theorem bN6 {f:Addr}{fd:FuncData}(F:dO K "_law_times" "_law_times" aH8 f fd)
  (C_LLo:Cl P w K mg base 2 ["_law_top","_law_bottom"] spLowX "_law_lowest")
   :
  bQ P w K mg base dS (3) f fd ["_law_one","_law_other"] (lD K):=by
 refine F.ok cC6 (fun vs H Q E h=>?_) (fun cdv A outer s H vs Q E hr h=>?_)
 ·obtain ⟨p,q,u,e,rfl,_⟩:=h;rfl
 obtain ⟨p,q,⟨a,b⟩,⟨c,d⟩,rfl,hp,hq,fu,fe,k⟩:=h;refine ⟨_,(aH (aM (bR C_LLo hr (aA (aL cV (bI aI (pv 0) aD) (bI aI (pv 1) aD)) (aA (aL cV (bI aI (pv 0) aD) (bI aI (pv 1) aD)) aC))))),?_⟩;have bd:0 < b * d:=Int.mul_pos (show 0 < b by have:=fu.b;exact this) (show 0 < d by have:=fe.b;exact this);refine ⟨_,rfl,p,_,_,_,rfl,rfl,hp,qX a b,_,rfl,q,_,_,_,rfl,rfl,hq,qX c d,_,_,rfl,rfl,⟨1000,1000,fu.ba,fe.ba,by decide,by decide⟩,?_⟩;refine ⟨_,rfl,p,_,_,_,rfl,rfl,hp,mL a b,_,rfl,q,_,_,_,rfl,rfl,hq,mL c d,_,_,rfl,rfl,⟨1000,1000,fu.bb,fe.bb,by decide,by decide⟩,?_⟩;exact ⟨_,_,rfl,Int.mul_nonneg fu.a fe.a,bd,⟨1000+1000,cE.mul fu.bb fe.bb,by decide⟩,k⟩
theorem cD5:aS ["_law_one","_law_other"] ["_law_one","_law_other"] (aG aO4):=by refine ⟨rfl,rfl,rfl,?_,rfl,?_,?_⟩<;>decide +kernel
theorem bN1 {f:Addr}{fd:FuncData}(F:dO K "_law_added" "_law_added" aO4 f fd)
  (C_LLo:Cl P w K mg base 2 ["_law_top","_law_bottom"] spLowX "_law_lowest")
   :
  bQ P w K mg base dS (3) f fd ["_law_one","_law_other"] (tY K):=by
 refine F.ok cD5 (fun vs H Q E h=>?_) (fun cdv A outer s H vs Q E hr h=>?_)
 ·obtain ⟨p,q,u,e,rfl,_⟩:=h;rfl
 obtain ⟨p,q,⟨a,b⟩,⟨c,d⟩,rfl,hp,hq,fu,fe,k⟩:=h;refine ⟨_,(aH (aM (bR C_LLo hr (aA (aL cC (aL cV (bI aI (pv 0) aD) (bI aI (pv 1) aD)) (aL cV (bI aI (pv 1) aD) (bI aI (pv 0) aD))) (aA (aL cV (bI aI (pv 0) aD) (bI aI (pv 1) aD)) aC))))),?_⟩;have bd:0 < b * d:=Int.mul_pos (show 0 < b by have:=fu.b;exact this) (show 0 < d by have:=fe.b;exact this);have m1:0<=a * d:=Int.mul_nonneg fu.a (Int.le_trans (by decide) fe.b);have m2:0<=c * b:=Int.mul_nonneg fe.a (Int.le_trans (by decide) fu.b);refine ⟨_,rfl,p,_,_,_,rfl,rfl,hp,qX a b,_,rfl,q,_,_,_,rfl,rfl,hq,mL c d,_,_,rfl,rfl,⟨1000,1000,fu.ba,fe.bb,by decide,by decide⟩,?_⟩;refine ⟨_,rfl,q,_,_,_,rfl,rfl,hq,qX c d,_,rfl,p,_,_,_,rfl,rfl,hp,mL a b,_,_,rfl,rfl,⟨1000,1000,fe.ba,fu.bb,by decide,by decide⟩,_,_,rfl,rfl,?_⟩;refine ⟨_,rfl,p,_,_,_,rfl,rfl,hp,mL a b,_,rfl,q,_,_,_,rfl,rfl,hq,mL c d,_,_,rfl,rfl,⟨1000,1000,fu.bb,fe.bb,by decide,by decide⟩,?_⟩;exact ⟨_,_,rfl,Int.add_nonneg m1 m2,bd,⟨1000+1000,cE.mul fu.bb fe.bb,by decide⟩,k⟩
theorem cC9:aS ["_law_one","_law_other"] ["_law_one","_law_other"] (aG aJ1):=by refine ⟨rfl,rfl,rfl,?_,rfl,?_,?_⟩<;>decide +kernel
theorem bT5 {f:Addr}{fd:FuncData}(F:dO K "_law_below" "_law_below" aJ1 f fd)
   :
  bQ P w K mg base dS (1) f fd ["_law_one","_law_other"] (nQ K):=by
 refine F.ok cC9 (fun vs H Q E h=>?_) (fun cdv A outer s H vs Q E hr h=>?_)
 ·obtain ⟨p,q,u,e,rfl,_⟩:=h;rfl
 obtain ⟨p,q,⟨a,b⟩,⟨c,d⟩,rfl,hp,hq,fu,fe,k⟩:=h;refine ⟨_,(aH (aM (dX oU (aL cV (bI aI (pv 0) aD) (bI aI (pv 1) aD)) (aL cV (bI aI (pv 1) aD) (bI aI (pv 0) aD)) (bB _)))),?_⟩;refine ⟨_,rfl,p,_,_,_,rfl,rfl,hp,qX a b,_,rfl,q,_,_,_,rfl,rfl,hq,mL c d,_,_,rfl,rfl,⟨1000,1000,fu.ba,fe.bb,by decide,by decide⟩,?_⟩;exact ⟨_,rfl,q,_,_,_,rfl,rfl,hq,qX c d,_,rfl,p,_,_,_,rfl,rfl,hp,mL a b,_,_,rfl,rfl,⟨1000,1000,fe.ba,fu.bb,by decide,by decide⟩,_,_,rfl,rfl,k⟩
theorem cA5:aS ["_law_one","_law_other"] ["_law_one","_law_other"] (aG aI9):=by refine ⟨rfl,rfl,rfl,?_,rfl,?_,?_⟩<;>decide +kernel
theorem bO4 {f:Addr}{fd:FuncData}(F:dO K "_law_greater" "_law_greater" aI9 f fd)
  (C_LBl:Cl P w K mg base 1 ["_law_one","_law_other"] (nQ K) "_law_below")
  (m_int:mg "int"=none) :
  bQ P w K mg base dS (2) f fd ["_law_one","_law_other"] (bA0 K):=by
 refine F.ok cA5 (fun vs H Q E h=>?_) (fun cdv A outer s H vs Q E hr h=>?_)
 ·obtain ⟨p,q,u,e,rfl,_⟩:=h;rfl
 obtain ⟨p,q,u,e,rfl,hp,hq,fu,fe,k⟩:=h;refine ⟨_,(aH (aM (bI bZ (bS (aA (pv 0) (aA (pv 1) aC))) (bY fU (by rfl) m_int PyProof.Rows.boot_int (aA (bR C_LBl hr (aA (pv 0) (aA (pv 1) aC))) aC))))),?_⟩;refine ⟨_,rfl,_,rfl,bM,fun l hl=>?_⟩;obtain ⟨H1,e0,s1,h1⟩:=gJ hl (.lst [.ref p,.ref q]);rw [e0];clear e0;refine ⟨_,rfl,_,rfl,p,q,u,e,rfl,hp.s s1,hq.s s1,fu,fe,.inr ⟨_,rfl,?_⟩⟩
 by_cases c:u.1 * e.2 < e.1 * u.2
 ·refine ⟨l,_,_,.ref q,rfl,rfl,bN.of h1,by rw [if_pos (decide_eq_true c)];rfl,k _ q s1 ?_⟩;unfold gC;rw [if_pos c];exact hq.s s1
 ·refine ⟨l,_,_,.ref p,rfl,rfl,bN.of h1,by rw [if_neg (by simpa using c)];rfl,k _ p s1 ?_⟩;unfold gC;rw [if_neg c];exact hp.s s1
theorem tI:aS ["one","k","top","bottom","step"] ["one","k"] (aG aO3):=by refine ⟨rfl,rfl,rfl,?_,rfl,?_,?_⟩<;>decide +kernel
theorem bN7 {f:Addr}{fd:FuncData}(F:dO K "power" "power" aO3 f fd)
  (m_range:mg "range"=none) :
  bQ P w K mg base dS (1) f fd ["one","k"] (tV K):=by
 refine F.ok tI (fun vs H Q E h=>?_) (fun cdv A outer s H vs Q E hr h=>?_)
 ·obtain ⟨p,u,n,rfl,_⟩:=h;rfl
 obtain ⟨p,⟨a,b⟩,n,rfl,hp,ba,bb,n0,n1,k⟩:=h;refine ⟨_,(aF (aK (i:=2) tI.nd rfl (Or.inl rfl) aD)
  (aF (aK (i:=3) tI.nd rfl (Or.inl rfl) aD)
  (aF (dN PassesOwn.never rfl (cY (by rfl) m_range (aA (pv 1) aC)) (aU (i:=4) tI.nd rfl (Or.inl rfl))
  (aF (aK (i:=2) tI.nd rfl (Or.inl rfl) (aL cV (pv 2) (bI aI (pv 0) aD)))
  (aH (aK (i:=3) tI.nd rfl (Or.inl rfl) (aL cV (pv 3) (bI aI (pv 0) aD))))))
  (aH (aM (aO (aA (pv 2) (aA (pv 3) aC)))))))),?_⟩
 refine ⟨_,rfl,_,rfl,by omega,by omega,jD (n:=n.toNat) (fun i σ H1=>H1=H/\∃ v,σ=[some (.ref p),some (.int n),some (.int (a ^ i)),some (.int (b ^ i)),v])
  ⟨rfl,none,by rw [Int.pow_zero,Int.pow_zero];rfl⟩ ?_ ?_⟩
 ·rintro i σ H1 hi ⟨rfl,v,rfl⟩;have i21:1000 * i+1<=100000:=by omega
  refine ⟨_,rfl,_,rfl,p,_,_,_,rfl,rfl,hp,qX a b,_,_,rfl,rfl,⟨1000 * i+1,1000,cE.pow ba i,ba,i21,by decide⟩,?_⟩;refine ⟨_,rfl,_,rfl,p,_,_,_,rfl,rfl,hp,mL a b,_,_,rfl,rfl,⟨1000 * i+1,1000,cE.pow bb i,bb,i21,by decide⟩,?_⟩;refine ⟨rfl,some (.int (0+(i:Int))),?_⟩;rw [Int.pow_succ,Int.pow_succ];rfl
 ·rintro σ H1 ⟨rfl,v,rfl⟩;exact ⟨_,rfl,_,rfl,bM,fun r hr'=>k r hr'⟩
theorem cA2:aS ["steepness","k"] ["steepness","k"] (aG aJ5):=by refine ⟨rfl,rfl,rfl,?_,rfl,?_,?_⟩<;>decide +kernel
theorem bL1 {f:Addr}{fd:FuncData}(F:dO K "far_tail" "far_tail" aJ5 f fd)
  (C_Tms:Cl P w K mg base 3 ["one","other"] (lD K) "times")
  (C_Pow:Cl P w K mg base 1 ["one","k"] (tV K) "power")
   :
  bQ P w K mg base dS (4) f fd ["steepness","k"] (bE9 0 21 (fun p q k=>uS p q k.toNat) (fun p q k=>nP p q k.toNat)):=by
 refine F.ok cA2 (fun vs H Q E h=>?_) (fun cdv A outer s H vs Q E hr h=>?_)
 ·obtain ⟨st,p,q,n,rfl,_⟩:=h;rfl
 obtain ⟨st,p,q,n,rfl,hst,hs,n0,n1,k⟩:=h;refine ⟨_,(aH (aM (bR C_Tms hr (aA (aO (aA (bI aI (pv 0) aD) (aA (aL cC (bI aI (pv 0) aD) (bI aI (pv 0) aD)) aC))) (aA (bR C_Pow hr (aA (pv 0) (aA (pv 1) aC))) aC))))),?_⟩;obtain ⟨p1,pq,q9⟩:=id hs;refine ⟨_,rfl,st,_,_,_,rfl,rfl,aX.of hst,mL p q,_,rfl,st,_,_,_,rfl,rfl,aX.of hst,mL p q,_,rfl,st,_,_,_,rfl,rfl,aX.of hst,qX p q,_,_,rfl,rfl,bM,fun t ht=>?_⟩;have g1:aZ H (aW H t (.tup [.int q,.int (q+p)])):=aB ht _;have ht1:fH (aW H t (.tup [.int q,.int (q+p)])) t q (q+p):=aE;generalize aW H t (.tup [.int q,.int (q+p)])=H1 at g1 ht1 ⊢;refine ⟨_,rfl,_,rfl,st,(p,q),n,rfl,bU.of (g1 _ _ hst),(b4 (by omega) (by omega)).mono (by decide),(b4 (by omega) (by omega)).mono (by decide),n0,n1,fun r hr'=>?_⟩;have g2:aZ H1 (aW H1 r (.tup [.int (p ^ n.toNat),.int (q ^ n.toNat)])):=aB hr' _;have hr2:fH (aW H1 r (.tup [.int (p ^ n.toNat),.int (q ^ n.toNat)])) r (p ^ n.toNat) (q ^ n.toNat):=aE
 generalize aW H1 r (.tup [.int (p ^ n.toNat),.int (q ^ n.toNat)])=H2 at g2 hr2 ⊢;have e1:=zR (a:=p) (n:=n.toNat) (by omega) (by omega) (by omega);have e2:=zR (a:=q) (n:=n.toNat) (by omega) (by omega) (by omega);have e3:1<=q ^ n.toNat:=pw1 (by omega) _;have f1:fI 1000 (q,q+p):=⟨show 0<=q by omega,show 1<=q+p by omega,(cE.of (n:=5) (show 0<=q by omega) (by omega)).mono (by decide),(cE.of (n:=5) (show 0<=q+p by omega) (by omega)).mono (by decide)⟩
 have f2:fI 1000 (p ^ n.toNat,q ^ n.toNat):=⟨e1.1,e3,(cE.of e1.1 e1.2).mono (by decide),(cE.of e2.1 e2.2).mono (by decide)⟩
 refine ⟨t,r,(q,q+p),(p ^ n.toNat,q ^ n.toNat),rfl,bU.of (g2 _ _ ht1),bU.of hr2,f1,f2,fun u hu'=>?_⟩;exact k _ u (g1.trans (g2.trans (aB hu' _))) aE
theorem bR6:aS ["steepness","k"] ["steepness","k"] (aG sP):=by refine ⟨rfl,rfl,rfl,?_,rfl,?_,?_⟩<;>decide +kernel
theorem bG0 {f:Addr}{fd:FuncData}(F:dO K "tail_of" "tail_of" sP f fd)
  (C_Minus:Cl P w K mg base 3 ["one","other"] spMinus "minus")
  (C_Far:Cl P w K mg base 4 ["steepness","k"] (bE9 0 21 (fun p q k=>uS p q k.toNat) (fun p q k=>nP p q k.toNat)) "far_tail")
   :
  bQ P w K mg base dS (5) f fd ["steepness","k"] (bE9 (-20) 21 tN tD):=by
 refine F.ok bR6 (fun vs H Q E h=>?_) (fun cdv A outer s H vs Q E hr h=>?_)
 ·obtain ⟨st,p,q,n,rfl,_⟩:=h;rfl
 obtain ⟨st,p,q,n,rfl,hst,hs,n0,n1,k⟩:=h;refine ⟨_,(aF (bT (aV wT (pv 1) aD (bB _)) (aH (aM (bR C_Far hr (aA (pv 0) (aA (pv 1) aC))))) bA)
  (aH (aM (bR C_Minus hr (aA (aO (aA aD (aA aD aC))) (aA (bR C_Far hr (aA (pv 0) (aA (aL cZ aD (pv 1)) aC))) aC)))))),?_⟩
 obtain ⟨p1,pq,q9⟩:=id hs;refine ⟨_,rfl,_,_,rfl,rfl,_,rfl,?_⟩;refine lQ (fun c=>?_) (fun c=>?_)
 ·have c0:0<=n:=of_decide_eq_true c;refine ⟨_,rfl,_,rfl,st,p,q,n,rfl,hst,hs,c0,n1,fun H' r s t=>k H' r s ?_⟩;unfold tN tD;simp only [if_pos c0];exact t
 ·have c0:¬ 0<=n:=fun z=>c (decide_eq_true z)
  refine ⟨bM,fun t ht=>?_⟩;have g1:aZ H (aW H t (.tup [.int 1,.int 1])):=aB ht _;have ht1:fH (aW H t (.tup [.int 1,.int 1])) t 1 1:=aE;generalize aW H t (.tup [.int 1,.int 1])=H1 at g1 ht1 ⊢;refine ⟨_,rfl,_,rfl,_,_,rfl,rfl,st,p,q,1 - n,rfl,g1 _ _ hst,hs,by omega,by omega,fun H2 r g2 hr2'=>?_⟩;have hr2:fH H2 r (eS (uS p q (1 - n).toNat) (nP p q (1 - n).toNat)) (dU (uS p q (1 - n).toNat) (nP p q (1 - n).toNat)):=hr2';have bd:=bZ7 hs (n:=(1 - n).toNat) (by omega);have sp:=aA4 p1 pq (1 - n).toNat;have lb:=bU1 bd.2.2 bd.2.1 sp;have l1:=jB (a:=uS p q (1 - n).toNat) sp;have l2:=bP7 (aE8 p1 pq (1 - n).toNat) sp;refine ⟨t,r,1,1,_,_,rfl,g2 _ _ ht1,hr2,⟨by decide,by decide⟩,⟨by decide,by decide⟩,lb.1,lb.2,by decide,l1,by omega,fun u hu'=>?_⟩;refine k _ u (g1.trans (g2.trans (aB hu' _))) ?_;have rt:=mQ (a:=uS p q (1 - n).toNat) (b:=nP p q (1 - n).toNat) bd.2.2.1 sp;have e:=yM (a:=1 * dU (uS p q (1 - n).toNat) (nP p q (1 - n).toNat) - eS (uS p q (1 - n).toNat) (nP p q (1 - n).toNat) * 1) (b:=1 * dU (uS p q (1 - n).toNat) (nP p q (1 - n).toNat))
   (c:=nP p q (1 - n).toNat - uS p q (1 - n).toNat) (d:=nP p q (1 - n).toNat) (by omega) (by omega) (by have:=aE8 p1 pq (1 - n).toNat;omega) sp (by
    generalize dU (uS p q (1 - n).toNat) (nP p q (1 - n).toNat)=y at rt ⊢;generalize eS (uS p q (1 - n).toNat) (nP p q (1 - n).toNat)=x at rt ⊢
    grind)
  unfold tN tD;simp only [if_neg c0];rw [<- e.1, <- e.2];exact aE
theorem cB4:aS ["steepness","k"] ["steepness","k"] (aG aK3):=by refine ⟨rfl,rfl,rfl,?_,rfl,?_,?_⟩<;>decide +kernel
theorem bO6 {f:Addr}{fd:FuncData}(F:dO K "turned_power" "turned_power" aK3 f fd)
  (C_Pow:Cl P w K mg base 1 ["one","k"] (tV K) "power")
   :
  bQ P w K mg base dS (2) f fd ["steepness","k"] spTPow:=by
 refine F.ok cB4 (fun vs H Q E h=>?_) (fun cdv A outer s H vs Q E hr h=>?_)
 ·obtain ⟨st,p,q,n,rfl,_⟩:=h;rfl
 obtain ⟨st,p,q,n,rfl,hst,hs,n0,n6,k⟩:=h;refine ⟨_,(aH (aM (bR C_Pow hr (aA (aO (aA (bI aI (pv 0) aD) (aA (bI aI (pv 0) aD) aC))) (aA (pv 1) aC))))),?_⟩;obtain ⟨p1,pq,q9⟩:=id hs;refine ⟨_,rfl,st,_,_,_,rfl,rfl,aX.of hst,mL p q,_,rfl,st,_,_,_,rfl,rfl,aX.of hst,qX p q,bM,fun t ht=>?_⟩;have s1:=aB ht (.tup [.int q,.int p]);have h1:fH (aW H t (.tup [.int q,.int p])) t q p:=aE;generalize aW H t (.tup [.int q,.int p])=H1 at s1 h1 ⊢;refine ⟨_,rfl,t,(q,p),n,rfl,bU.of h1,(b4 (by omega) (by omega)).mono (by decide),(b4 (by omega) (by omega)).mono (by decide),n0,by omega,fun r hr'=>?_⟩;exact k _ r (s1.trans (aB hr' _)) aE
theorem cE3:aS ["sort"] ["sort"] (aG aN3):=by refine ⟨rfl,rfl,rfl,?_,rfl,?_,?_⟩<;>decide +kernel
theorem bP6 {f:Addr}{fd:FuncData}(F:dO K "has_one_sum" "has_one_sum" aN3 f fd)
   :
  bQ P w K mg base dS (1) f fd ["sort"] spOne4:=by
 refine F.ok cE3 (fun vs H Q E h=>?_) (fun cdv A outer s H vs Q E hr h=>?_)
 ·obtain ⟨T,rfl,_⟩:=h;rfl
 obtain ⟨T,rfl,k⟩:=h;refine ⟨_,(aH (aM (dX cH (pv 0) (aO (aA aJ (aA aJ aC))) rfl))),?_⟩;refine ⟨_,rfl,bM,fun t ht=>⟨t,[.str "ladder",.str "flat"],rfl,.inr (aX.of aE),rfl,rfl,?_⟩⟩;show Q (.bl (lC (V.str T.wd) [.str "ladder",.str "flat"])) _;rw [bT6];exact k _ (aB ht _)
theorem bZ1:aS ["sort"] ["sort"] (aG aM8):=by refine ⟨rfl,rfl,rfl,?_,rfl,?_,?_⟩<;>decide +kernel
theorem bV0 {f:Addr}{fd:FuncData}(F:dO K "place_of_sums" "place_of_sums" aM8 f fd)
   :
  bQ P w K mg base dS (1) f fd ["sort"] spPlc4:=by
 refine F.ok bZ1 (fun vs H Q E h=>?_) (fun cdv A outer s H vs Q E hr h=>?_)
 ·obtain ⟨T,rfl,_⟩:=h;rfl
 obtain ⟨T,rfl,k⟩:=h;refine ⟨_,(aH (aM (oS (aV cR (pv 0) aJ (bB _)) aD aD))),?_⟩;refine ⟨_,rfl,rfl,_,rfl,?_⟩
 by_cases c:T.wd="first"
 ·rw [if_pos c] at k;exact bO (by rw [c];exact decide_eq_true rfl) k
 ·rw [if_neg c] at k;exact bC (fun z=>c (by have z:=of_decide_eq_true z;injection z)) k
theorem bJ5:aS ["row","asked"] ["row"] (aG aP1):=by refine ⟨rfl,rfl,rfl,?_,rfl,?_,?_⟩<;>decide +kernel
theorem bW6 {f:Addr}{fd:FuncData}(F:dO K "sums_of" "sums_of" aP1 f fd)
  (C_Plc:Cl P w K mg base 1 ["sort"] spPlc4 "place_of_sums")
  (C_One:Cl P w K mg base 1 ["sort"] spOne4 "has_one_sum")
   :
  bQ P w K mg base dS (2) f fd ["row"] spSumT:=by
 refine F.ok bJ5 (fun vs H Q E h=>?_) (fun cdv A outer s H vs Q E hr h=>?_)
 ·obtain ⟨p,w,x,d,rfl,_⟩:=h;rfl
 obtain ⟨p,w,x,d,rfl,hr0,k⟩:=h;refine ⟨_,(aF (aK (i:=1) bJ5.nd rfl (Or.inl rfl) (bI aI (pv 0) (bR C_Plc hr (aA (bI aI (pv 0) aD) aC))))
  (aH (aM (oS (gE (bR C_One hr (aA (bI aI (pv 0) aD) aC))) (aO (aA (pv 1) aC)) (pv 1))))),?_⟩
 obtain ⟨hp,ok⟩:=hr0;have ew:=ok.wd;subst ew;obtain ⟨a,ha,so⟩:=bC7 ok.at' (x:=x);refine ⟨_,rfl,_,rfl,p,_,_,_,rfl,rfl,aX.of hp,jG,d.T,rfl,p,_,_,_,rfl,rfl,aX.of hp,ha,?_⟩;refine ⟨_,rfl,p,_,_,_,rfl,rfl,aX.of hp,jG,d.T,rfl,fun H1 s1=>⟨_,rfl,?_⟩⟩;rcases so with ⟨e,w,ws,rfl,hws,ew⟩ | ⟨e,sm,us,rfl,hsm,tw⟩
 ·refine bO e ?_;exact ⟨_,rfl,iT,fun t ht=>k _ t _ (s1.trans (aB ht _)) aE (by rw [ew];exact ⟨⟨w,rfl,(s1.trans (aB ht _)) _ _ hws⟩,trivial⟩)⟩
 ·refine bC (by rw [e];decide) ?_;exact ⟨_,rfl,k _ sm us s1 (s1 _ _ hsm) (tw.mono fun _ _ z=>z.ts (.of s1))⟩
theorem wR:aS ["_law_steep_here","_law_k","_law_p","_law_q","_law_top","_law_bottom"] ["_law_steep_here","_law_k"] (aG aL7):=by refine ⟨rfl,rfl,rfl,?_,rfl,?_,?_⟩<;>decide +kernel
theorem bN2 (n:Nat) {f:Addr}{fd:FuncData}(F:dO K "_law_tail" "_law_tail" aL7 f fd)
  (C_LTl:Cl P w K mg base (n+1) ["_law_steep_here","_law_k"] (aE9 n) "_law_tail")
  (C_LPw:Cl P w K mg base 1 ["_law_n","_law_k"] spPowI "_law_pow")
   :
  bQ P w K mg base dS (n+1+1) f fd ["_law_steep_here","_law_k"] (aE9 (n+1)):=by
 refine F.ok wR (fun vs H Q E h=>?_) (fun cdv A outer s H vs Q E hr h=>?_)
 ·obtain ⟨st,p,q,z,rfl,_⟩:=h;rfl
 obtain ⟨st,p,q,z,rfl,hst,hs,z0,z1,hn,k⟩:=h;refine ⟨_,(aF (fP (pv 0) (fE rfl (bJ (aU (i:=2) wR.nd rfl (Or.inl rfl)) (bJ (aU (i:=3) wR.nd rfl (Or.inl rfl)) dY))))
  (aF (bT (aV oU (pv 1) aD (bB _)) (aF (fP (bR C_LTl hr (aA (pv 0) (aA (aL cZ aD (pv 1)) aC))) (fE rfl (bJ (aU (i:=4) wR.nd rfl (Or.inl rfl)) (bJ (aU (i:=5) wR.nd rfl (Or.inl rfl)) dY))))
  (aH (aM (aO (aA (aL cZ (pv 5) (pv 4)) (aA (pv 5) aC)))))) bA)
  (aH (aM (aO (aA (aL kP (bR C_LPw hr (aA (pv 2) (aA (pv 1) aC))) (pv 3)) (aA (aL kP (bR C_LPw hr (aA (pv 3) (aA (pv 1) aC))) (aL cC (pv 2) (pv 3))) aC))))))),?_⟩
 obtain ⟨p1,pq,q9⟩:=id hs;refine ⟨_,rfl,st,_,rfl,aX.of hst,rfl,_,_,rfl,_,_,rfl,rfl,?_⟩;refine ⟨_,rfl,_,_,rfl,rfl,_,rfl,?_⟩;refine lQ (fun c=>?_) (fun c=>?_)
 ·have c0:z < 0:=of_decide_eq_true c
  cases n with
  | zero=>exact absurd (hn rfl) (by omega)
  | succ n =>
  refine ⟨_,rfl,_,rfl,_,_,rfl,rfl,st,p,q,1 - z,rfl,hst,hs,by omega,by omega,(fun _=>by omega),fun H1 r s1 h1=>?_⟩;refine ⟨r,_,rfl,aX.of h1,rfl,_,_,rfl,_,_,rfl,rfl,?_⟩;refine ⟨_,rfl,_,rfl,_,_,rfl,rfl,_,rfl,bM,fun t ht=>k _ t (s1.trans (aB ht _)) ?_⟩;have e1:tN p q z=tD p q (1 - z) - tN p q (1 - z):=by
   unfold tN tD;rw [if_neg (by omega),if_pos (by omega),if_pos (by omega)]
  have e2:tD p q z=tD p q (1 - z):=by
   unfold tD;rw [if_neg (by omega),if_pos (by omega)]
  rw [e1,e2];exact aE
 ·have c0:0<=z:=by
   have:¬ z < 0:=fun w=>c (decide_eq_true w)
   omega
  have e1:=zR (a:=p) (n:=z.toNat) (by omega) (by omega) (by omega);have e2:=zR (a:=q) (n:=z.toNat) (by omega) (by omega) (by omega);refine ⟨_,rfl,_,rfl,p,z,rfl,by omega,by omega,c0,by omega,_,rfl,_,_,rfl,rfl,⟨⟨by omega,by omega⟩,⟨by omega,by omega⟩⟩,?_⟩;refine ⟨_,rfl,_,rfl,q,z,rfl,by omega,by omega,c0,by omega,_,rfl,_,rfl,_,_,rfl,rfl,_,_,rfl,rfl,⟨⟨by omega,by omega⟩,⟨by omega,by omega⟩⟩,bM,fun t ht=>k _ t (aB ht _) ?_⟩;have f1:tN p q z=p ^ z.toNat * q:=by unfold tN uS;rw [if_pos c0,Int.mul_comm]
  have f2:tD p q z=q ^ z.toNat * (p+q):=by unfold tD nP;rw [if_pos c0,Int.mul_comm,Int.add_comm]
  rw [f1,f2];exact aE
theorem bB6:(["weights","kind"]:List Str).Nodup:=by decide +kernel
theorem aE6:aS ["row","kind","weight","moves","factor"] ["row","kind"] (aG aP6):=by refine ⟨rfl,rfl,rfl,?_,rfl,?_,?_⟩<;>decide +kernel
theorem bQ1 {f:Addr}{fd:FuncData}(F:dO K "price_of_throw" "price_of_throw" aP6 f fd)
  {cF cF0 cF1:Addr}(m_FREE:mg "FREE"=some (.ref cF)) (hF:∀ H,aX K H cF [.ref cF0,.ref cF1]/\bU K H cF0 (1,1)/\bU K H cF1 (0,1))
  (C_Tms:Cl P w K mg base 3 ["one","other"] (lD K) "times")
  (C_TPw:Cl P w K mg base 2 ["steepness","k"] spTPow "turned_power")
  (C_Low:Cl P w K mg base 2 ["top","bottom"] spLowX "lowest")
  (C_Tail:Cl P w K mg base 5 ["steepness","k"] (bE9 (-20) 21 tN tD) "tail_of")
  (C_Sms:Cl P w K mg base 2 ["row"] spSumT "sums_of")
  (m_max:mg "max"=none) (m_min:mg "min"=none) :
  bQ P w K mg base dS (6) f fd ["row","kind"] (bI7 K):=by
 refine F.ok aE6 (fun vs H Q E h=>?_) (fun cdv A outer s H vs Q E hr h=>?_)
 ·obtain ⟨p,w,x,d,kn,rfl,_⟩:=h;rfl
 obtain ⟨p,w,x,d,kn,rfl,hr0,hkd,k⟩:=h;have hr2:eF 2 _:=hr.mono (by decide);have hr5:eF 5 _:=hr.mono (by decide);refine ⟨_,(aF (aK (i:=2) aE6.nd rfl (Or.inl rfl) (bV oR (by rfl) m_max PyProof.Rows.boot_max (aA (dG ["weights","kind"] [none,some 1] (mX (bR C_Sms hr (aA (pv 0) aC))) (fun _ _ _ _=>(aU (i:=0) (bB6) rfl (Or.inl rfl))) (fun _ _ _ _=>fG) (fun _ _ _ _=>(bI (qY K) (pv 0) (pv 1)))) aC)))
  (aF (bT (aV cR (pv 2) aD (bB _)) (aH (aM (gX (v:= .ref cF) (by rfl) m_FREE rfl))) bA)
  (aF (bT (aV cR (bI aI (pv 0) aD) aJ (bB _)) (aF (aK (i:=3) aE6.nd rfl (Or.inl rfl) (aL cC (aL gG aD (bI aI (pv 0) aD)) aD))
  (aH (aM (aO (aA (bI aI (gX (v:= .ref cF) (by rfl) m_FREE rfl) aD) (aA (bR C_Low hr (aA (bV (mR rfl) (by rfl) m_min PyProof.Rows.boot_min (aA (pv 2) (aA (pv 3) aC))) (aA (pv 3) aC))) aC)))))) bA)
  (aF (bT (aV cR (bI aI (pv 0) aD) aJ (bB _)) (aF (aK (i:=4) aE6.nd rfl (Or.inl rfl) (bR C_Tms hr (aA (bR C_TPw hr (aA (bI aI (pv 0) aD) (aA (pv 2) aC))) (aA (bR C_TPw hr (aA (bI aI (pv 0) aD) (aA (aL gG aD (pv 2)) aC))) aC))))
  (aH (aM (aO (aA (pv 4) (aA (bR C_Tail hr (aA (bI aI (pv 0) aD) (aA (aL cZ (aL cZ (bI aI (pv 0) aD) (pv 2)) (bI aI (pv 0) aD)) aC))) aC)))))) bA)
  (aH (aM (aO (aA (bR C_TPw hr (aA (bI aI (pv 0) aD) (aA (pv 2) aC))) (aA (bI aI (gX (v:= .ref cF) (by rfl) m_FREE rfl) aD) aC))))))))),?_⟩
 refine ⟨_,rfl,p,w,x,d,rfl,hr0,fun H1 t us s1 ht tw=>⟨t,rfl,⟨_,aX.of ht⟩,qM (xs:=us) (fun i zs σ G=>G=H1/\(∃ v,σ=[v,some (.int kn)])/\zs=((d.wss.map fun ws=>ws.getD kn 0).take i).map V.int)
  (bD (by have:=tw.length;have:=hr0.2.ws.l4;omega)) ⟨rfl,⟨_,rfl⟩,rfl⟩ (by rintro i zs σ G ⟨_,_,e⟩;rw [e,List.length_map,List.length_take];omega) (by rintro i zs σ G _ ⟨e,_⟩;rw [e];exact aX.of ht) ?_ ?_⟩⟩
 ·rintro j y zs σ _ hy ⟨rfl,⟨v,rfl⟩,rfl⟩;obtain ⟨ws,hws,aw,rfl,hia⟩:=iN tw hy;have lw:=(hr0.2.ws.ws ws (List.mem_of_getElem? hws)).1;refine ⟨_,rfl,_,rfl,aw,_,_,_,rfl,rfl,aX.of hia,fW (bJ9 (by omega)),rfl,⟨_,rfl⟩,?_⟩;have e:(d.wss.map fun ws=>ws.getD kn 0)[j]?=some (ws.getD kn 0):=by rw [List.getElem?_map,hws];rfl
  rw [bF e,List.map_append];rfl
 rintro zs σ Gx ⟨ex,_,rfl⟩ l9 hl9;replace ex:=ex.symm;subst ex;rw [aC4 tw];refine ⟨l9,_,rfl,bN.of aE,aX0 hr0.2.ws kn,fun wI hin hbd=>?_⟩;have s2:=s1.trans (aB hl9 (.lst ((d.wss.map fun ws=>ws.getD kn 0).map V.int)));generalize aW H1 l9 (.lst ((d.wss.map fun ws=>ws.getD kn 0).map V.int))=H2 at s2 ⊢;have ew:=bJ1 hr0.2.ws hin hbd;have w03:=xM hr0.2.ws kn;clear hin hbd hl9 tw ht s1;subst ew;generalize ewk:wK d kn=wI at w03 k ⊢;obtain ⟨w0,w3⟩:=w03;refine ⟨_,rfl,rfl,_,rfl,?_⟩
 by_cases c0:wI=0
 ·refine bO (by rw [c0];exact decide_eq_true rfl) ?_;refine k _ _ s2 ?_;unfold kR;rw [if_pos c0];exact ⟨cF,cF0,cF1,rfl,(hF _).1,(hF _).2.1,(hF _).2.2⟩
 refine bC (fun z=>c0 (by have z:=of_decide_eq_true z;injection z)) ?_;have hr2:=eT.ts (.of s2) _ hr0;obtain ⟨hp,ok⟩:=hr2;have ewd:=ok.wd;have vat:=ok.at';have tok:=ok.ok;have kk:∀ H' v,aZ H2 H'->dE K H' v (kR d.T wI)->Q v H':=fun H' v s=>k H' v (s2.trans s)
 clear k hr0 ok s2 hkd ewk;unfold kR at kk;rw [if_neg c0] at kk;obtain ⟨vs,T,wss,kd⟩:=d;replace hp:H2 p=some (.tup (.str w :: .str x :: vs)):=hp;subst ewd
 cases T with
 | fla r lo hi =>
  obtain ⟨wa,ws,e,_,_⟩:=vat;replace e:vs=_:=e;subst e;obtain ⟨r0,r4⟩:=tok;replace r0:0<=r:=r0;replace r4:r<=4:=r4;refine ⟨_,rfl,p,_,_,_,rfl,rfl,aX.of hp,rfl,rfl,_,rfl,bO (decide_eq_true rfl) ?_⟩;refine ⟨_,rfl,p,_,_,_,rfl,rfl,aX.of hp,rfl,_,_,rfl,rfl,.inl ⟨by decide,by decide⟩,_,_,rfl,rfl,?_⟩;have m0:0<=(if 2 * r+1 < wI then 2 * r+1 else wI):=by split <;> omega
  refine ⟨cF,_,_,_,rfl,rfl,(hF _).1,rfl,_,rfl,_,rfl,wI,2 * r+1,rfl,_,rfl,_,_,rfl,m0,by omega,⟨10,.of (by omega) (by omega),by decide⟩,fun u hu'=>⟨bM,fun t ht=>?_⟩⟩;have s2':=aB hu' (.tup [.int (dH (if 2 * r+1 < wI then 2 * r+1 else wI) (2 * r+1)).1,.int (dH (if 2 * r+1 < wI then 2 * r+1 else wI) (2 * r+1)).2]);exact kk _ (.ref t) (s2'.trans (aB ht _)) ⟨t,cF0,u,rfl,aX.of aE,(hF _).2.1,bU.ofU ((aB ht _) _ _ aE)⟩
 | fst pa qa pb qb mk lo hi =>
  obtain ⟨sm,us,sa,sb,e,_,_,h1,h2⟩:=vat;replace e:vs=_:=e;subst e;obtain ⟨ca,cb,k0,k9⟩:=tok;refine ⟨_,rfl,p,_,_,_,rfl,rfl,aX.of hp,rfl,rfl,_,rfl,bC (by rw [decide_eq_true_eq];exact nFF) ?_⟩;refine ⟨_,rfl,p,_,_,_,rfl,rfl,aX.of hp,rfl,rfl,_,rfl,bO (decide_eq_true rfl) ?_⟩;refine ⟨_,rfl,p,_,_,_,rfl,rfl,aX.of hp,rfl,_,rfl,sa,pa,qa,wI,rfl,h1,ca.st,w0,by omega,fun H3 r3 s3 h3=>?_⟩;refine ⟨_,rfl,p,_,_,_,rfl,rfl,aX.of (s3 _ _ hp),rfl,_,rfl,_,_,rfl,rfl,.inl ⟨by decide,by decide⟩,sb,pb,qb,2 * wI,rfl,s3 _ _ h2,cb.st,by omega,by omega,fun H4 r4 s4 h4=>?_⟩;have q1:∀ {a c:Int},tJ a c->fI 1000 (c ^ wI.toNat,a ^ wI.toNat)/\fI 1000 (c ^ (2 * wI).toNat,a ^ (2 * wI).toNat):=fun {a c} h=>by
   have h1:=h.st.p1;have h2:=h.st.pq;have h3:=h.st.q9;exact ⟨⟨Int.pow_nonneg (by omega),pw1 h1 _,(pwb (by omega) h3 (by omega)).mono (by decide),(pwb (by omega) (by omega) (by omega)).mono (by decide)⟩,⟨Int.pow_nonneg (by omega),pw1 h1 _,(pwb (by omega) h3 (by omega)).mono (by decide),(pwb (by omega) (by omega) (by omega)).mono (by decide)⟩⟩
  refine ⟨r3,r4,(qa ^ wI.toNat,pa ^ wI.toNat),(qb ^ (2 * wI).toNat,pb ^ (2 * wI).toNat),rfl,bU.of (s4 _ _ h3),bU.of h4,(q1 ca).1,(q1 cb).2,fun r5 hr5=>?_⟩;have s5:=aB hr5 (.tup [.int (fJ (qa ^ wI.toNat,pa ^ wI.toNat) (qb ^ (2 * wI).toNat,pb ^ (2 * wI).toNat)).1,.int (fJ (qa ^ wI.toNat,pa ^ wI.toNat) (qb ^ (2 * wI).toNat,pb ^ (2 * wI).toNat)).2]);have h5:=aE (H:=H4) (a:=r5) (o:= .tup [.int (fJ (qa ^ wI.toNat,pa ^ wI.toNat) (qb ^ (2 * wI).toNat,pb ^ (2 * wI).toNat)).1,.int (fJ (qa ^ wI.toNat,pa ^ wI.toNat) (qb ^ (2 * wI).toNat,pb ^ (2 * wI).toNat)).2]);generalize aW H4 r5 (.tup [.int (fJ (qa ^ wI.toNat,pa ^ wI.toNat) (qb ^ (2 * wI).toNat,pb ^ (2 * wI).toNat)).1,.int (fJ (qa ^ wI.toNat,pa ^ wI.toNat) (qb ^ (2 * wI).toNat,pb ^ (2 * wI).toNat)).2])=H5 at s5 h5 ⊢;have g5:=s3.trans (s4.trans s5);refine ⟨_,rfl,_,rfl,p,_,_,_,rfl,rfl,aX.of (g5 _ _ hp),rfl,_,rfl,p,_,_,_,rfl,rfl,aX.of (g5 _ _ hp),rfl,_,rfl,_,_,rfl,rfl,_,rfl,p,_,_,_,rfl,rfl,aX.of (g5 _ _ hp),rfl,_,_,rfl,rfl,sa,pa,qa,hi - wI - mk,rfl,g5 _ _ h1,ca.st,by omega,by omega,fun H6 r6 s6 h6=>⟨bM,fun t ht=>?_⟩⟩
  exact kk _ (.ref t) (g5.trans (s6.trans (aB ht _))) ⟨t,r5,r6,rfl,aX.of aE,bU.ofU ((s6.trans (aB ht _)) _ _ h5),bU.ofU ((aB ht _) _ _ h6)⟩
 | lad pa qa lo hi =>
  obtain ⟨wa,ws,st,e,_,_,h1⟩:=vat;replace e:vs=_:=e;subst e;refine ⟨_,rfl,p,_,_,_,rfl,rfl,aX.of hp,rfl,rfl,_,rfl,bC (by rw [decide_eq_true_eq];exact nFL) ?_⟩;refine ⟨_,rfl,p,_,_,_,rfl,rfl,aX.of hp,rfl,rfl,_,rfl,bC (by rw [decide_eq_true_eq];exact nIL) ?_⟩;refine ⟨_,rfl,p,_,_,_,rfl,rfl,aX.of hp,rfl,_,rfl,st,pa,qa,wI,rfl,h1,(show tJ pa qa from tok).st,w0,by omega,fun H3 r3 s3 h3=>?_⟩;refine ⟨cF,_,_,_,rfl,rfl,(hF _).1,rfl,bM,fun t ht=>?_⟩;exact kk _ (.ref t) (s3.trans (aB ht _)) ⟨t,r3,cF1,rfl,aX.of aE,bU.of ((aB ht _) _ _ h3),(hF _).2.2⟩
 | cho pa qa lo hi =>
  obtain ⟨sm,us,st,e,_,_,h1⟩:=vat;replace e:vs=_:=e;subst e;refine ⟨_,rfl,p,_,_,_,rfl,rfl,aX.of hp,rfl,rfl,_,rfl,bC (by rw [decide_eq_true_eq];exact nFC) ?_⟩;refine ⟨_,rfl,p,_,_,_,rfl,rfl,aX.of hp,rfl,rfl,_,rfl,bC (by rw [decide_eq_true_eq];exact nIC) ?_⟩;refine ⟨_,rfl,p,_,_,_,rfl,rfl,aX.of hp,rfl,_,rfl,st,pa,qa,wI,rfl,h1,(show tJ pa qa from tok).st,w0,by omega,fun H3 r3 s3 h3=>?_⟩;refine ⟨cF,_,_,_,rfl,rfl,(hF _).1,rfl,bM,fun t ht=>?_⟩;exact kk _ (.ref t) (s3.trans (aB ht _)) ⟨t,r3,cF1,rfl,aX.of aE,bU.of ((aB ht _) _ _ h3),(hF _).2.2⟩
theorem cB1:aS ["row","kind"] ["row","kind"] (aG aM1):=by refine ⟨rfl,rfl,rfl,?_,rfl,?_,?_⟩<;>decide +kernel
theorem bV6 {f:Addr}{fd:FuncData}(F:dO K "price_of_row" "price_of_row" aM1 f fd)
  {cT:Addr}(m_THROWS:mg "THROWS"=some (.ref cT)) (hT:∀ H,aX K H cT (dZ.map V.str)) {cF cF0 cF1:Addr}(m_FREE:mg "FREE"=some (.ref cF)) (hF:∀ H,aX K H cF [.ref cF0,.ref cF1]/\bU K H cF0 (1,1)/\bU K H cF1 (0,1))
  (C_POT:Cl P w K mg base 6 ["row","kind"] (bI7 K) "price_of_throw")
   :
  bQ P w K mg base dS (7) f fd ["row","kind"] (aS6 K):=by
 refine F.ok cB1 (fun vs H Q E h=>?_) (fun cdv A outer s H vs Q E hr h=>?_)
 ·obtain ⟨r,kn,rfl,_⟩:=h;rfl
 obtain ⟨r,kn,rfl,hr0,hk,k⟩:=h;refine ⟨_,(aH (aM (oS (aV cH (bI aI (pv 0) aD) (gX (v:= .ref cT) (by rfl) m_THROWS rfl) rfl) (bR C_POT hr (aA (pv 0) (aA (pv 1) aC))) (gX (v:= .ref cF) (by rfl) m_FREE rfl)))),?_⟩;refine ⟨_,rfl,r.p,_,_,.str r.w,rfl,rfl,aX.of hr0.at,jG,cT,_,rfl,.inr (hT _),rfl,eA _,_,rfl,?_⟩;have ei:lC (V.str r.w) (dZ.map V.str)=decide (r.w∈dZ):=cJ _ _;have no:¬ r.w∈dZ->qU kn r=free->Q (.ref cF) H:=fun _ e=>k H _ (aZ.refl _) (by rw [e];exact ⟨cF,cF0,cF1,rfl,(hF _).1,(hF _).2.1,(hF _).2.2⟩)
 cases r with
 | thr p w x d =>
  refine bO (ei.trans (decide_eq_true (iQ.w hr0.2))) ?_;exact ⟨_,rfl,_,rfl,p,w,x,d,kn,rfl,hr0,hk p w x d rfl,k⟩
 | lt p x t =>
  have n:¬ (("let": Str)∈dZ):=by decide +kernel
  exact bC (fun z=>n (of_decide_eq_true (ei.symm.trans z))) (no n rfl)
 | tell p t =>
  have n:¬ (("tell": Str)∈dZ):=by decide +kernel
  exact bC (fun z=>n (of_decide_eq_true (ei.symm.trans z))) (no n rfl)
 | when p pa pb t a b =>
  have n:¬ (("when": Str)∈dZ):=by decide +kernel
  exact bC (fun z=>n (of_decide_eq_true (ei.symm.trans z))) (no n rfl)
 | times p pb n' b =>
  have n:¬ (("times": Str)∈dZ):=by decide +kernel
  exact bC (fun z=>n (of_decide_eq_true (ei.symm.trans z))) (no n rfl)
theorem tK:aS ["prices","factor","rest","one"] ["prices"] (aG aO1):=by refine ⟨rfl,rfl,rfl,?_,rfl,?_,?_⟩<;>decide +kernel
theorem bL2 {f:Addr}{fd:FuncData}(F:dO K "price_behind" "price_behind" aO1 f fd)
  {cF cF0 cF1:Addr}(m_FREE:mg "FREE"=some (.ref cF)) (hF:∀ H,aX K H cF [.ref cF0,.ref cF1]/\bU K H cF0 (1,1)/\bU K H cF1 (0,1))
  (C_Tms:Cl P w K mg base 3 ["one","other"] (lD K) "times")
  (C_Add:Cl P w K mg base 3 ["one","other"] (tY K) "added")
   :
  bQ P w K mg base dS (4) f fd ["prices"] (bJ6 K):=by
 refine F.ok tK (fun vs H Q E h=>?_) (fun cdv A outer s H vs Q E hr h=>?_)
 ·obtain ⟨l,us,ps,rfl,_⟩:=h;rfl
 obtain ⟨l,us,ps,rfl,hl,un,tw,⟨b1,b2⟩,k⟩:=h;refine ⟨_,(aF (aK (i:=1) tK.nd rfl (Or.inl rfl) (bI aI (gX (v:= .ref cF) (by rfl) m_FREE rfl) aD))
  (aF (aK (i:=2) tK.nd rfl (Or.inl rfl) (bI aI (gX (v:= .ref cF) (by rfl) m_FREE rfl) aD))
  (aF (dN PassesOwn.never rfl (dC (pv 0)) (aU (i:=3) tK.nd rfl (Or.inl rfl))
  (aF (aK (i:=1) tK.nd rfl (Or.inl rfl) (bR C_Tms hr (aA (pv 1) (aA (bI aI (pv 3) aD) aC))))
  (aH (aK (i:=2) tK.nd rfl (Or.inl rfl) (bR C_Add hr (aA (pv 2) (aA (bI aI (pv 3) aD) aC)))))))
  (aH (aM (aO (aA (pv 1) (aA (pv 2) aC)))))))),?_⟩
 refine ⟨cF,_,_,_,rfl,rfl,(hF _).1,rfl,?_⟩;refine ⟨cF,_,_,_,rfl,rfl,(hF _).1,rfl,?_⟩;have ul:=tw.length;refine ⟨_,rfl,l,rfl,⟨_,bN.of hl⟩,eU (K:=K) (a:=l) (xs:=us) (fun i σ G=>∃ (f g:Addr) (v:Option V),σ=[some (.ref l),some (.ref f),some (.ref g),v]/\aZ H G/\bU K G f (fB (ps.take i)).1/\bU K G g (fB (ps.take i)).2)
  ⟨cF0,cF1,_,rfl,aZ.refl _,(hF _).2.1,(hF _).2.2⟩ (by rintro i σ G _ ⟨_,_,_,_,e,_⟩;exact bN.of (e _ _ hl)) ?_ ?_⟩
 ·rintro D' i v σ G hv ⟨f,g,v3,rfl,s1,hf,hg⟩;obtain ⟨P0,hP,a,x,y,rfl,ha,hx,hy⟩:=iN tw hv;have bp:=b1 P0 (List.mem_of_getElem? hP);have bi:=b2 i;refine ⟨_,rfl,_,rfl,a,_,_,_,rfl,rfl,aX.ts s1 ha,rfl,f,x,_,_,rfl,hf,hx.s s1,bi.1,bp.1,fun r1 hr1'=>?_⟩;have s2:=aB hr1' (.tup [.int (fJ (fB (ps.take i)).1 P0.1).1,.int (fJ (fB (ps.take i)).1 P0.1).2]);have h2:=aE (H:=G) (a:=r1) (o:= .tup [.int (fJ (fB (ps.take i)).1 P0.1).1,.int (fJ (fB (ps.take i)).1 P0.1).2]);generalize aW G r1 (.tup [.int (fJ (fB (ps.take i)).1 P0.1).1,.int (fJ (fB (ps.take i)).1 P0.1).2])=G2 at s2 h2 ⊢;refine ⟨_,rfl,_,rfl,a,_,_,_,rfl,rfl,aX.ts (s1.trans s2) ha,rfl,g,y,_,_,rfl,hg.s s2,hy.s (s1.trans s2),bi.2,bp.2,fun r2 hr2'=>?_⟩;rw [bF hP,lY];exact ⟨r1,r2,_,rfl,s1.trans (s2.trans (aB hr2' _)),(bU.ofU h2).s (aB hr2' _),bU.ofU aE⟩
 ·rintro σ G ⟨f,g,v3,rfl,s1,hf,hg⟩;rw [ul,List.take_length] at hf hg;refine ⟨_,rfl,_,rfl,bM,fun t ht=>?_⟩;exact k _ (.ref t) (s1.trans (aB ht _)) ⟨t,f,g,rfl,aX.of aE,hf.s (aB ht _),hg.s (aB ht _)⟩
theorem aA5:aS ["fractions","found","fraction"] ["fractions"] (aG aK4):=by refine ⟨rfl,rfl,rfl,?_,rfl,?_,?_⟩<;>decide +kernel
theorem bS6 {f:Addr}{fd:FuncData}(F:dO K "greatest" "greatest" aK4 f fd)
  (C_Les:Cl P w K mg base 1 ["one","other"] (nQ K) "less")
   :
  bQ P w K mg base dS (2) f fd ["fractions"] (bK1 K):=by
 refine F.ok aA5 (fun vs H Q E h=>?_) (fun cdv A outer s H vs Q E hr h=>?_)
 ·obtain ⟨l,us,fs,rfl,_⟩:=h;rfl
 obtain ⟨l,us,fs,rfl,hl,f1,f9,tw,bf,k⟩:=h;refine ⟨_,(aF (aK (i:=1) aA5.nd rfl (Or.inl rfl) (bI bZ (pv 0) aD))
  (aF (dN PassesOwn.never rfl (dC (pv 0)) (aU (i:=2) aA5.nd rfl (Or.inl rfl))
  (aH (bT (gE (bR C_Les hr (aA (pv 1) (aA (pv 2) aC)))) (aH (aK (i:=1) aA5.nd rfl (Or.inl rfl) (pv 2))) bA)))
  (aH (aM (pv 1))))),?_⟩
 have ul:=tw.length;obtain ⟨f0,fr,rfl⟩:=yW f1;obtain ⟨u0,ur,rfl⟩:∃ a r,us=a :: r:=yW (by omega);obtain ⟨⟨a0,rfl,h0⟩,_⟩:=id tw;refine ⟨_,rfl,l,_,_,.ref a0,rfl,rfl,bN.of hl,jG,?_⟩;refine ⟨_,rfl,l,rfl,⟨_,bN.of hl⟩,eU (K:=K) (a:=l) (xs:= .ref a0 :: ur) (fun i σ G=>G=H/\∃ (f:Addr) (v:Option V),σ=[some (.ref l),some (.ref f),v]/\bU K H f (((f0 :: fr).take i).foldl gC f0))
  ⟨rfl,a0,_,rfl,h0⟩ (by rintro i σ G _ ⟨e,_⟩;rw [e];exact bN.of hl) ?_ ?_⟩
 ·rintro D' i v σ G hv ⟨rfl,f,v2,rfl,hf⟩;obtain ⟨g,hg,a,rfl,ha⟩:=iN tw hv;have bg:=bf g (List.mem_of_getElem? hg);have bacc:fI 1000 (((f0 :: fr).take i).foldl gC f0):=bF0 (bf f0 List.mem_cons_self) fun x hx=>bf x (List.mem_of_mem_take hx)
  refine ⟨_,rfl,_,rfl,f,a,_,_,rfl,hf,ha,bacc,bg,_,rfl,?_⟩;rw [bA3 hg];refine lQ (fun c=>?_) (fun c=>?_)
  ·refine ⟨_,rfl,rfl,a,_,rfl,?_⟩;rw [show gC (((f0 :: fr).take i).foldl gC f0) g=g from if_pos (of_decide_eq_true c)];exact ha
  ·refine ⟨rfl,f,_,rfl,?_⟩;have c:¬ _:=fun z=>c (decide_eq_true z)
   rw [show gC (((f0 :: fr).take i).foldl gC f0) g=((f0 :: fr).take i).foldl gC f0 from if_neg c];exact hf
 ·rintro σ G ⟨rfl,f,v2,rfl,hf⟩;rw [ul,List.take_length] at hf;exact ⟨_,rfl,k _ ⟨f,rfl,hf⟩⟩
theorem bD1:(["one"]:List Str).Nodup:=by decide +kernel
theorem bC2:(["one"]:List Str).Nodup:=by decide +kernel
theorem cE7:(["one"]:List Str).Nodup:=by decide +kernel
theorem cE6:(["one"]:List Str).Nodup:=by decide +kernel
theorem bY4:aS ["prices"] ["prices"] (aG aP4):=by refine ⟨rfl,rfl,rfl,?_,rfl,?_,?_⟩<;>decide +kernel
theorem bT7 {f:Addr}{fd:FuncData}(F:dO K "greatest_of" "greatest_of" aP4 f fd)
  (C_Grt:Cl P w K mg base 2 ["fractions"] (bK1 K) "greatest")
   :
  bQ P w K mg base dS (3) f fd ["prices"] (aV4 K):=by
 refine F.ok bY4 (fun vs H Q E h=>?_) (fun cdv A outer s H vs Q E hr h=>?_)
 ·obtain ⟨l,us,ps,rfl,_⟩:=h;rfl
 obtain ⟨l,us,ps,rfl,hl,p1,p9,tw,bp,k⟩:=h;refine ⟨_,(aH (aM (aO (aA (bR C_Grt hr (aA (dG ["one"] [none] (dC (pv 0)) (fun _ _ _ _=>(aU (i:=0) (bC2) rfl (Or.inl rfl))) (fun _ _ _ _=>fG) (fun _ _ _ _=>(bI (qY K) (pv 0) aD))) aC)) (aA (bR C_Grt hr (aA (dG ["one"] [none] (dC (pv 0)) (fun _ _ _ _=>(aU (i:=0) (bD1) rfl (Or.inl rfl))) (fun _ _ _ _=>fG) (fun _ _ _ _=>(bI (qY K) (pv 0) aD))) aC)) aC))))),?_⟩;have ul:=tw.length;refine ⟨_,rfl,l,rfl,⟨_,bN.of hl⟩,eO (K:=K) (a:=l) (xs:=us) (fun i zs σ G=>G=H/\(∃ v,σ=[v])/\dP (FrK K H) zs ((ps.map (·.1)).take i))
  (bD (by omega)) ⟨rfl,⟨_,rfl⟩,trivial⟩ (by rintro i zs σ G ⟨_,_,e⟩;rw [e.length,List.length_take];omega) (by rintro i zs σ G _ ⟨e,_⟩;rw [e];exact bN.of hl) ?_ ?_⟩
 ·rintro i v zs σ _ hv ⟨rfl,⟨v',rfl⟩,tz⟩;obtain ⟨P0,hP,a,x,y,rfl,ha,hx,hy⟩:=iN tw hv;have e:(ps.map (·.1))[i]?=some P0.1:=by rw [List.getElem?_map,hP];rfl
  refine ⟨_,rfl,a,_,_,_,rfl,rfl,ha,rfl,rfl,⟨_,rfl⟩,?_⟩;rw [bF e];exact dP.append tz ⟨⟨x,rfl,hx⟩,trivial⟩
 rintro zs σ Gx ⟨ex,_,tz⟩ l1 hl1;replace ex:=ex.symm;subst ex;rw [ul, <- List.length_map (f:=fun p:Prc=>p.1) (as:=ps),List.take_length] at tz;obtain ⟨H1,e0,s1,h1⟩:=gJ hl1 (.lst zs);rw [e0];clear e0;refine ⟨l1,zs,ps.map (·.1),rfl,h1,by rw [List.length_map];exact p1,by rw [List.length_map];exact p9,tz.mono fun _ _ z=>z.s s1,fun f hf=>?_,?_⟩
 ·obtain ⟨P0,hP,rfl⟩:=List.mem_map.mp hf;exact (bp P0 hP).1
 rintro v1 ⟨a1,rfl,ha1⟩;refine ⟨_,rfl,l,rfl,⟨_,bN.of (s1 _ _ hl)⟩,eO (K:=K) (a:=l) (xs:=us) (fun i zs σ G=>G=H1/\(∃ v,σ=[v])/\dP (FrK K H1) zs ((ps.map (·.2)).take i))
  (bD (by omega)) ⟨rfl,⟨_,rfl⟩,trivial⟩ (by rintro i zs σ G ⟨_,_,e⟩;rw [e.length,List.length_take];omega) (by rintro i zs σ G _ ⟨e,_⟩;rw [e];exact bN.of (s1 _ _ hl)) ?_ ?_⟩
 ·rintro i v zs σ _ hv ⟨rfl,⟨v',rfl⟩,tz⟩;obtain ⟨P0,hP,a,x,y,rfl,ha,hx,hy⟩:=iN tw hv;have e:(ps.map (·.2))[i]?=some P0.2:=by rw [List.getElem?_map,hP];rfl
  refine ⟨_,rfl,a,_,_,_,rfl,rfl,aX.ts s1 ha,rfl,rfl,⟨_,rfl⟩,?_⟩;rw [bF e];exact dP.append tz ⟨⟨y,rfl,hy.s s1⟩,trivial⟩
 rintro zs2 σ Gx ⟨ex,_,tz2⟩ l2 hl2;replace ex:=ex.symm;subst ex;rw [ul, <- List.length_map (f:=fun p:Prc=>p.2) (as:=ps),List.take_length] at tz2;obtain ⟨H2,e0,s2,h2⟩:=gJ hl2 (.lst zs2);rw [e0];clear e0;refine ⟨l2,zs2,ps.map (·.2),rfl,h2,by rw [List.length_map];exact p1,by rw [List.length_map];exact p9,tz2.mono fun _ _ z=>z.s s2,fun f hf=>?_,?_⟩
 ·obtain ⟨P0,hP,rfl⟩:=List.mem_map.mp hf;exact (bp P0 hP).2
 rintro v2 ⟨a2,rfl,ha2⟩;refine ⟨bM,fun t ht=>k _ (.ref t) (s1.trans (s2.trans (aB ht _))) ⟨t,a1,a2,rfl,aX.of aE,ha1.s (s2.trans (aB ht _)),ha2.s (aB ht _)⟩⟩
theorem cC3:aS ["part"] ["part"] (aG aH5):=by refine ⟨rfl,rfl,rfl,?_,rfl,?_,?_⟩<;>decide +kernel
theorem bR7 {f:Addr}{fd:FuncData}(F:dO K "is_row" "is_row" aH5 f fd)
  (m_isinstance:mg "isinstance"=none) (m_str:mg "str"=none) (m_len:mg "len"=none) :
  bQ P w K mg base dS (1) f fd ["part"] spIsRow:=by
 refine F.ok cC3 (fun vs H Q E h=>?_) (fun cdv A outer s H vs Q E hr h=>?_)
 ·obtain ⟨e,rfl,_⟩:=h;rfl
 obtain ⟨e,rfl,he,k⟩:=h;refine ⟨_,(aH (aM (lA (dX kU (bV cG (by rfl) m_len PySem.boot_len (aA (pv 0) aC)) aD (bB _)) (mS (bV jV (by rfl) m_isinstance PyProof.Rows.boot_isinstance (aA (bI aI (pv 0) aD) (aA (uA (v:= .ty "str") (by rfl) m_str PyProof.Rows.boot_str rfl) aC))))))),?_⟩
 cases e with
 | rows p rs =>
  obtain ⟨hp,hR⟩:=he;refine ⟨_,rfl,p,_,rfl,.inr (aX.of hp),_,_,rfl,rfl,_,rfl,?_⟩
  cases rs with
  | nil=>exact bC (by decide) k
  | cons r rs =>
   refine bO (decide_eq_true (by show (0:Int) < ((cI (r :: rs)).length:Int);rw [bW,List.length_cons];omega)) ?_;exact ⟨_,rfl,p,_,_,_,rfl,rfl,aX.of hp,jG,_,_,_,false,rfl,.tup (eT.at hR.1),rfl,k⟩
 | row r =>
  have hr1:=eT.at he;refine ⟨_,rfl,r.p,_,rfl,.inr (aX.of hr1),_,_,rfl,rfl,_,rfl,bO (decide_eq_true (by rw [List.length_cons];omega)) ?_⟩;exact ⟨_,rfl,r.p,_,_,.str r.w,rfl,rfl,aX.of hr1,jG,_,_,_,true,rfl,.str _,rfl,k⟩
theorem cB6:aS ["part"] ["part"] (aG aF5):=by refine ⟨rfl,rfl,rfl,?_,rfl,?_,?_⟩<;>decide +kernel
theorem bW9 {f:Addr}{fd:FuncData}(F:dO K "parts_right_in" "parts_right_in" aF5 f fd)
  (C_IsR:Cl P w K mg base 1 ["part"] spIsRow "is_row")
  (m_list:mg "list"=none) :
  bQ P w K mg base dS (2) f fd ["part"] spPRI:=by
 refine F.ok cB6 (fun vs H Q E h=>?_) (fun cdv A outer s H vs Q E hr h=>?_)
 ·obtain ⟨e,rfl,_⟩:=h;rfl
 obtain ⟨e,rfl,he,k⟩:=h;have hr1:eF 1 _:=hr.mono (by decide);refine ⟨_,(aF (bT (oO (gE (bR C_IsR hr (aA (pv 0) aC)))) (aH (aM (bY jJ (by rfl) m_list PyProof.Rows.boot_list (aA (pv 0) aC)))) bA)
  (aF (bT (aV cR (bI aI (pv 0) aD) aJ (bB _)) (aH (aM (bS (aA (bI aI (pv 0) aD) (aA (bI aI (pv 0) aD) aC))))) bA)
  (aF (bT (aV cR (bI aI (pv 0) aD) aJ (bB _)) (aH (aM (bS (aA (bI aI (pv 0) aD) aC)))) bA)
  (aH (aM (bS aC)))))),?_⟩
 refine ⟨_,rfl,e,rfl,he,_,rfl,?_⟩
 cases e with
 | rows p rs =>
  obtain ⟨hp,hR⟩:=he;refine bO rfl ?_;exact ⟨_,rfl,p,_,rfl,.inr (aX.of hp),fun l hl=>k l _ (aB hl _) hl (by rw [aE];show _=some (HO.lst (gL (rs.map Pt.row)));rw [aE0])⟩
 | row r =>
  refine bC (fun z=>Bool.noConfusion (show false=true from z)) ?_;have nn:¬ V.str r.w=V.str "when"->¬ V.str r.w=V.str "times"->(Pt.row r).kids=[]->bD2 (bQ2 (aQ5 (tOp rEq (tOp (yS K) (lX 0) (tC (V.int 0))) (tC (V.str "when")))) (bD6 (bE5 (iL (tOp (yS K) (lX 0) (tC (V.int 2))) (iL (tOp (yS K) (lX 0) (tC (V.int 3))) tNil)))) tNext)
    (bD2 (bQ2 (aQ5 (tOp rEq (tOp (yS K) (lX 0) (tC (V.int 0))) (tC (V.str "times")))) (bD6 (bE5 (iL (tOp (yS K) (lX 0) (tC (V.int 2))) tNil))) tNext) (bD6 (bE5 tNil))) { nx:=fun x H'=>Q V.non H',rt:=Q } [some (.ref r.p)] H:=fun n1 n2 ek=>by
   have hr1:=eT.at he;refine ⟨_,rfl,r.p,_,_,.str r.w,rfl,rfl,aX.of hr1,jG,rfl,_,rfl,bC (by rw [decide_eq_true_eq];exact n1) ?_⟩;refine ⟨_,rfl,r.p,_,_,.str r.w,rfl,rfl,aX.of hr1,jG,rfl,_,rfl,bC (by rw [decide_eq_true_eq];exact n2) ?_⟩;exact ⟨Nat.zero_le _,fun l hl=>k l _ (aB hl _) hl (by rw [aE,ek];rfl)⟩
  cases r with
  | when p pa pb t a b =>
   have hp:=he.1;refine ⟨_,rfl,p,_,_,_,rfl,rfl,aX.of hp,rfl,rfl,_,rfl,bO (decide_eq_true rfl) ?_⟩;exact ⟨_,rfl,p,_,_,_,rfl,rfl,aX.of hp,rfl,_,rfl,p,_,_,_,rfl,rfl,aX.of hp,rfl,bM,fun l hl=>k l _ (aB hl _) hl aE⟩
  | times p pb n b =>
   have hp:=he.1;refine ⟨_,rfl,p,_,_,_,rfl,rfl,aX.of hp,rfl,rfl,_,rfl,bC (by rw [decide_eq_true_eq];exact nTW) ?_⟩;refine ⟨_,rfl,p,_,_,_,rfl,rfl,aX.of hp,rfl,rfl,_,rfl,bO (decide_eq_true rfl) ?_⟩;exact ⟨_,rfl,p,_,_,_,rfl,rfl,aX.of hp,rfl,iT,fun l hl=>k l _ (aB hl _) hl aE⟩
  | thr p w x d=>exact nn (pC he.2).1 (pC he.2).2 rfl
  | lt p x t=>exact nn nLW.1 nLW.2 rfl
  | tell p t=>exact nn nEW.1 nEW.2 rfl
theorem bF5:(["k","place"]:List Str).Nodup:=by decide +kernel
theorem bZ2:aS ["place","part"] ["place","part"] (aG aJ0):=by refine ⟨rfl,rfl,rfl,?_,rfl,?_,?_⟩<;>decide +kernel
theorem bO7 {f:Addr}{fd:FuncData}(F:dO K "places_right_in" "places_right_in" aJ0 f fd)
  (C_PRI:Cl P w K mg base 2 ["part"] spPRI "parts_right_in")
  (m_range:mg "range"=none) (m_len:mg "len"=none) :
  bQ P w K mg base dS (3) f fd ["place","part"] spPlRI:=by
 refine F.ok bZ2 (fun vs H Q E h=>?_) (fun cdv A outer s H vs Q E hr h=>?_)
 ·obtain ⟨e,q,rfl,_⟩:=h;rfl
 obtain ⟨e,q,rfl,hq,l1,l4,he,k⟩:=h;refine ⟨_,(aH (aM (dG ["k","place"] [none,some 0] (cY (by rfl) m_range (aA (bV cG (by rfl) m_len PySem.boot_len (aA (bR C_PRI hr (aA (pv 1) aC)) aC)) aC)) (fun _ _ _ _=>(aU (i:=0) (bF5) rfl (Or.inl rfl))) (fun _ _ _ _=>fG) (fun _ _ _ _=>(aL (bZ8 K) (pv 1) (aO (aA (pv 0) aC))))))),?_⟩;refine ⟨_,rfl,e.2,rfl,he,fun r1 H1 s1 n1 h1=>⟨r1,_,rfl,.inl (bN.of h1),_,rfl,by omega,by rw [eR];omega,fR (n:=(gL e.2.kids).length) (fun i zs σ G=>aZ H1 G/\(∃ v,σ=[v,some (.ref q)])/\dP (wW G) zs (((eV e).map (·.1)).take i))
  (eY (by rw [eR];omega)) ⟨aZ.refl _,⟨_,rfl⟩,trivial⟩ (by rintro i zs σ G ⟨_,_,z⟩;rw [z.length,List.length_take];omega) ?_ ?_⟩⟩
 ·rintro i zs σ G hi ⟨s2,⟨v,rfl⟩,tz⟩;rw [eR] at hi;have hq2:=(s1.trans s2) _ _ hq;rw [bF (xW hi)];refine ⟨_,rfl,_,rfl,iT,fun t ht=>?_⟩;obtain ⟨G3,e0,s3,h3⟩:=gJ ht (.tup [.int (0+(i:Int))]);rw [e0];clear e0;refine ⟨q,t,_,_,rfl,rfl,aX.of (s3 _ _ hq2),aX.of h3,(fun z=>by cases z),by rw [List.length_map];exact Nat.le_of_lt (bD (by rw [List.length_singleton];omega)),fun z=>?_,fun z t2 ht2=>?_⟩
  ·refine ⟨s2.trans s3,⟨_,rfl⟩,dP.append (tz.mono fun _ _ z=>z.ts (.of s3)) ⟨⟨t,rfl,?_⟩,trivial⟩⟩;rw [List.map_append,z,List.nil_append];rw [Int.zero_add] at h3;exact h3
  ·have s4:=aB ht2 (.tup (e.1.map V.int++[.int (0+(i:Int))]));refine ⟨s2.trans (s3.trans s4),⟨_,rfl⟩,dP.append (tz.mono fun _ _ z=>z.ts (.of (s3.trans s4))) ⟨⟨t2,rfl,?_⟩,trivial⟩⟩;rw [List.map_append];show _=some (HO.tup (e.1.map V.int++[.int (i:Int)]));rw [aE,Int.zero_add]
 ·rintro zs σ G ⟨s2,_,tz⟩ l9 hl9;rw [eR, <- iX, <- List.length_map (f:=fun c:PP=>c.1) (as:=eV e),List.take_length] at tz;have s9:=s1.trans (s2.trans (aB hl9 (.lst zs)));exact k l9 zs _ s9 ((s1.trans s2).free hl9) aE (tz.mono fun _ _ z=>z.ts (.of (aB hl9 _)))
theorem xK:aS ["rows","found","waiting","place","part"] ["rows"] (aG aG4):=by refine ⟨rfl,rfl,rfl,?_,rfl,?_,?_⟩<;>decide +kernel
theorem bW1 {f:Addr}{fd:FuncData}(F:dO K "places_of" "places_of" aG4 f fd)
  (C_PlI:Cl P w K mg base 3 ["place","part"] spPlRI "places_right_in")
  (C_PRI:Cl P w K mg base 2 ["part"] spPRI "parts_right_in")
  (m_list:mg "list"=none) (m_reversed:mg "reversed"=none) (m_zip:mg "zip"=none) :
  bQ P w K mg base dS (4) f fd ["rows"] spPlOf:=by
 refine F.ok xK (fun vs H Q E h=>?_) (fun cdv A outer s H vs Q E hr h=>?_)
 ·obtain ⟨p,rs,kd,rfl,_⟩:=h;rfl
 obtain ⟨p,rs,kd,rfl,hp,hR,hc,hdp,hkd,k⟩:=h;refine ⟨_,(aF (aK (i:=1) xK.nd rfl (Or.inl rfl) (bS aC))
  (aF (aK (i:=2) xK.nd rfl (Or.inl rfl) (bS (aA (aO (aA (aO aC) (aA (pv 0) aC))) aC)))
  (aF (fK PassesOwn.never (kB (pv 2) (fun _=>rfl))
  (aF (dR (fY PySem.F.plainAttrs_list PySem.F.slot_list_append PySem.F.type_list_append eP (pv 1) (aA (qP PySem.F.plainAttrs_list PySem.F.slot_list_pop PySem.F.type_list_pop pI (pv 2)) aC)))
  (aF (aK (i:=3) xK.nd rfl (Or.inl rfl) (bI aI (bI bZ (pv 1) (sJ mN aD)) aD))
  (aF (aK (i:=4) xK.nd rfl (Or.inl rfl) (bI aI (bI bZ (pv 1) (sJ mN aD)) aD))
  (aH (dR (fY PySem.F.plainAttrs_list PySem.F.slot_list_extend PySem.F.type_list_extend fT (pv 2) (aA (zO (by rfl) m_list (by rfl) m_zip (aA (bR C_PlI hr (aA (pv 3) (aA (pv 4) aC))) (aA (bR C_PRI hr (aA (pv 4) aC)) aC))) aC))))))))
  (aH (aM (pH (pv 1) (by rfl) m_list (by rfl) m_reversed)))))),?_⟩
 refine ⟨Nat.zero_le _,fun f hf=>?_⟩;obtain ⟨H1,e0,s1,f1⟩:=gJ hf (.lst []);rw [e0];clear e0;refine ⟨Nat.zero_le _,fun t0 ht0=>?_⟩;obtain ⟨H2,e0,s2,h20⟩:=gJ ht0 (.tup []);rw [e0];clear e0;refine ⟨_,rfl,bM,fun t1 ht1=>?_⟩;obtain ⟨H3,e0,s3,h31⟩:=gJ ht1 (.tup [.ref t0,.ref p]);rw [e0];clear e0;refine ⟨iT,fun wl hw=>?_⟩;have s4:=aB hw (.lst [.ref t1]);have h4:aW H3 wl (.lst [.ref t1]) wl=some (.lst [.ref t1]):=aE;have f4:=s4 _ _ ((s2.trans s3) _ _ f1);have s04:=s1.trans (s2.trans (s3.trans s4));have wn:H wl=none:=(s1.trans (s2.trans s3)).free hw;have nwf:wl≠f:=(aR ((s2.trans s3) _ _ f1) hw).symm;have p0:dP (uB (aW H3 wl (.lst [.ref t1]))) [.ref t1] [([],Pt.rows p rs)]:=⟨⟨t1,t0,rfl,s4 _ _ h31,(s3.trans s4) _ _ h20⟩,trivial⟩
 generalize aW H3 wl (.lst [.ref t1])=H4 at s4 h4 f4 s04 p0 ⊢;have ol:=aD7 (pl:=[]) (p:=p) (rs:=rs);generalize eL:eI ([],Pt.rows p rs)=L at k ol;have al:∀ e∈L,sW H e.2/\e.1.length<=7/\e.2.kids.length<=cU rs+2:=fun e he=>by
  rw [<- eL] at he;have:=(zN hkd e he).2.1;exact ⟨bJ2 hp hR e he,by omega,aS5 e he⟩
 refine ⟨fun j σ G=>∃ (zs ws:List V) (F W:List PP) (v3 v4:Option V),σ=[some (.ref p),some (.ref f),some (.ref wl),v3,v4]/\aZ H G/\G f=some (.lst zs)/\G wl=some (.lst ws)/\dP (uB G) zs F/\dP (uB G) ws W/\W.flatMap eI++F.reverse=L/\j=(W.flatMap eI).length,⟨_,[],[.ref t1],[],[([],Pt.rows p rs)],_,_,rfl,s04,f4,h4,trivial,p0,by rw [<- eL];simp,rfl⟩,?_⟩;rintro j σ G ⟨zs,ws,F,W,v3,v4,rfl,sG,gf,gw,tz,tw,eW,rfl⟩;refine ⟨_,rfl,_,.inl ⟨_,bN.of gw,rfl⟩,?_⟩;rcases W.eq_nil_or_concat with rfl | ⟨W',e,rfl⟩
 ·have ew:ws=[]:=List.eq_nil_of_length_eq_zero tw.length;subst ew;refine bC (by decide) ?_;refine ⟨_,rfl,f,_,rfl,bN.of gf,fun l hl=>?_⟩;refine k l zs.reverse _ (sG.trans (aB hl _)) aE ?_;rw [List.flatMap_nil,List.nil_append] at eW;rw [<- eW];exact (oM tz).mono fun _ _ z=>z.ts (.of (aB hl _))
 ·rw [List.concat_eq_append] at *;obtain ⟨us,v,rfl,tu,q,a,rfl,hq,ha⟩:=qC tw;have me:e∈L:=by
   rw [<- eW,List.flatMap_append];exact List.mem_append_left _ (List.mem_append_right _ (List.mem_flatMap.mpr ⟨e,List.mem_singleton.mpr rfl,qH e⟩))
  obtain ⟨pe,l7,kl⟩:=al e me;have lz:=tz.length;have lu:=tu.length;have lL:=congrArg List.length eW;rw [List.flatMap_append,List.length_append,List.length_append,List.length_reverse] at lL;have g1:=aX9 W';have o1:=vE e;have es:([e]:List PP).flatMap eI=eI e:=by simp
  rw [es] at lL;refine bO (by simp) ?_;refine ⟨fun σ' H'=>∃ (zs ws:List V) (v3 v4:Option V),σ'=[some (.ref p),some (.ref f),some (.ref wl),v3,v4]/\aZ H H'/\H' f=some (.lst zs)/\H' wl=some (.lst ws)/\dP (uB H') zs (F++[e])/\dP (uB H') ws (W'++eV e),?_,?_⟩
  ·rintro σ' H' ⟨zs',ws',v3',v4',rfl,a1,a2,a3,a4,a5⟩;refine ⟨((W'++eV e).flatMap eI).length,?_,zs',ws',_,_,v3',v4',rfl,a1,a2,a3,a4,a5,?_,rfl⟩
   ·rw [List.flatMap_append,List.flatMap_append,es,lZ e,List.length_append,List.length_append,List.length_append,List.length_singleton];omega
   ·rw [<- eW,List.flatMap_append,List.flatMap_append,es,lZ e,List.reverse_append];simp only [List.reverse_singleton,List.append_assoc]
  refine ⟨_,rfl,.inl ⟨rfl,_,bN.of gf⟩,_,rfl,.inl ⟨rfl,_,bN.of gw⟩,wl,us++[.ref q],.ref q,rfl,rfl,gw,by simp,?_⟩;rw [List.dropLast_concat];have t5:=TS.lst (ys:=us) gw;have s5:=cX (ys:=us) sG wn;have gf5:aW G wl (.lst us) f=some (.lst zs):=by rw [aQ nwf.symm];exact gf
  have gw5:aW G wl (.lst us) wl=some (.lst us):=aE;generalize aW G wl (.lst us)=G5 at t5 s5 gf5 gw5 ⊢;refine ⟨f,zs,.ref q,rfl,rfl,gf5,eY (by omega),?_⟩;have t6:=t5.trans (TS.lst (ys:=zs++[.ref q]) gf5);have s6:=cX (ys:=zs++[.ref q]) s5 hf;have gf6:aW G5 f (.lst (zs++[.ref q])) f=some (.lst (zs++[.ref q])):=aE;have gw6:aW G5 f (.lst (zs++[.ref q])) wl=some (.lst us):=by rw [aQ nwf];exact gw5
  generalize aW G5 f (.lst (zs++[.ref q]))=G6 at t6 s6 gf6 gw6 ⊢;refine ⟨_,rfl,1,rfl,f,_,_,.ref q,rfl,rfl,bN.of gf6,oE,q,_,_,.ref a,rfl,rfl,aX.of (t6 _ _ hq),rfl,?_⟩;refine ⟨_,rfl,1,rfl,f,_,_,.ref q,rfl,rfl,bN.of gf6,oE,q,_,_,.ref e.2.p,rfl,rfl,aX.of (t6 _ _ hq),rfl,?_⟩;refine ⟨_,rfl,.inl ⟨rfl,_,bN.of gw6⟩,_,rfl,_,rfl,e,a,rfl,t6 _ _ ha,by omega,by omega,pe.ts (.of s6),fun r7 xs7 G7 s7 n7 h7 t7=>?_⟩;refine ⟨_,rfl,e.2,rfl,pe.ts (.of (s6.trans s7)),fun r8 G8 s8 n8 h8=>?_⟩;have l7':=t7.length;rw [List.length_map,iX] at l7';refine ⟨r7,r8,_,_,rfl,bN.of (s8 _ _ h7),bN.of h8,by rw [eR];exact l7',fun r9 xs9 G9 s9 n9 h9 l9 a9=>?_⟩;have tt:=(TS.of s7).trans ((TS.of s8).trans (TS.of s9));have gw9:=s9 _ _ (s8 _ _ (s7 _ _ gw6));have gf9:=s9 _ _ (s8 _ _ (s7 _ _ gf6));refine ⟨wl,r9,us,xs9,rfl,rfl,gw9,h9,Nat.le_of_lt (eY (by omega)),?_⟩;have t10:=TS.lst (ys:=us++xs9) gw9;have ta:=t6.trans (tt.trans t10);refine ⟨zs++[.ref q],us++xs9,_,_,rfl,cX (s6.trans (s7.trans (s8.trans s9))) wn,by rw [aQ nwf.symm];exact gf9,aE,dP.append (tz.mono fun _ _ z=>z.ts ta) ⟨⟨q,a,rfl,ta _ _ hq,ta _ _ ha⟩,trivial⟩,dP.append (tu.mono fun _ _ z=>z.ts ta) ?_⟩
  refine aX6 (by rw [iX];omega) fun i z c hz hc=>?_
  have il:=(List.getElem?_eq_some_iff.mp hc).1;rw [iX] at il;have ec:=hc.symm.trans (uQ (List.getElem?_eq_getElem il));injection ec with ec
  subst ec;obtain ⟨x7,hx7⟩:∃ x,xs7[i]?=some x:=⟨_,List.getElem?_eq_getElem (by omega)⟩
  obtain ⟨k7,hk7,a7,rfl,ha7⟩:=iN t7 hx7;rw [xW il] at hk7;injection hk7 with hk7
  subst hk7;obtain ⟨q9,hq9,hq9'⟩:=a9 i _ _ hx7 (show (gL e.2.kids)[i]?=some (.ref (e.2.kids[i]).p) by unfold gL;rw [List.getElem?_map,List.getElem?_eq_getElem il];rfl);rw [hq9] at hz;injection hz with hz
  subst hz;exact ⟨q9,a7,rfl,t10 _ _ hq9',t10 _ _ (s9 _ _ (s8 _ _ ha7))⟩
theorem bK3:aS ["part","prices","factor"] ["part","prices"] (aG aH6):=by refine ⟨rfl,rfl,rfl,?_,rfl,?_,?_⟩<;>decide +kernel
theorem bL8 {f:Addr}{fd:FuncData}(F:dO K "price_made" "price_made" aH6 f fd)
  {cF cF0 cF1:Addr}(m_FREE:mg "FREE"=some (.ref cF)) (hF:∀ H,aX K H cF [.ref cF0,.ref cF1]/\bU K H cF0 (1,1)/\bU K H cF1 (0,1))
  (C_Pow:Cl P w K mg base 1 ["one","k"] (tV K) "power")
  (C_IsR:Cl P w K mg base 1 ["part"] spIsRow "is_row")
  (C_Beh:Cl P w K mg base 4 ["prices"] (bJ6 K) "price_behind")
  (C_GOf:Cl P w K mg base 3 ["prices"] (aV4 K) "greatest_of")
  (C_Tms:Cl P w K mg base 3 ["one","other"] (lD K) "times")
   :
  bQ P w K mg base dS (5) f fd ["part","prices"] (aR4 K):=by
 refine F.ok bK3 (fun vs H Q E h=>?_) (fun cdv A outer s H vs Q E hr h=>?_)
 ·obtain ⟨e,l,us,ss,kn,kd,rfl,_⟩:=h;rfl
 obtain ⟨e,l,us,ss,kn,kd,rfl,he,hm,hld,hkd,l4,hl,tw,k⟩:=h;refine ⟨_,(aF (bT (oO (gE (bR C_IsR hr (aA (pv 0) aC)))) (aH (aM (bR C_Beh hr (aA (pv 1) aC)))) bA)
  (aF (bT (aV cR (bI aI (pv 0) aD) aJ (bB _)) (aH (aM (bR C_GOf hr (aA (pv 1) aC)))) bA)
  (aF (aK (i:=2) bK3.nd rfl (Or.inl rfl) (bR C_Pow hr (aA (bI aI (bI bZ (pv 1) aD) aD) (aA (bI aI (pv 0) aD) aC))))
  (aH (aM (aO (aA (pv 2) (aA (bR C_Tms hr (aA (bI aI (bI bZ (pv 1) aD) aD) (aA (aO (aA (bI aI (pv 0) aD) (aA aD aC))) aC))) aC)))))))),?_⟩
 refine ⟨_,rfl,e,rfl,he,_,rfl,?_⟩;have tl:=tw.length
 cases e with
 | rows p rs =>
  refine bO rfl ?_;have ek:(Pt.rows p rs).kids.map (Pt.pr ss kn)=qS ss kn rs:=by
   show (rs.map Pt.row).map (Pt.pr ss kn)=_;rw [List.map_map,kN];rfl
  rw [ek] at tw;rw [List.length_map] at tl;exact ⟨_,rfl,l,us,_,rfl,hl,by omega,tw,aX5 he.2 hld,k⟩
 | row r =>
  refine bC (fun z=>Bool.noConfusion (show false=true from z)) ?_
  cases r with
  | when p pa pb t a b =>
   have hp:=he.1;refine ⟨_,rfl,p,_,_,_,rfl,rfl,aX.of hp,rfl,rfl,_,rfl,bO (decide_eq_true rfl) ?_⟩;have pe:(Pt.row (.when p pa pb t a b)).pr ss kn=pW (gD ss kn a) (gD ss kn b):=by simp only [Pt.pr,lH,gD]
   rw [pe] at k;simp only [Pt.ld,mW] at hld;have ek:(Pt.row (.when p pa pb t a b)).kids.map (Pt.pr ss kn)=[gD ss kn a,gD ss kn b]:=by simp only [Pt.kids,List.map_cons,List.map_nil,Pt.pr]
   rw [ek] at tw;have oa:=nN (hZ ss kn he.2.2.2.2.1).2 (by omega);have ob:=nN (hZ ss kn he.2.2.2.2.2).2 (by omega);refine ⟨_,rfl,l,us,[gD ss kn a,gD ss kn b],rfl,hl,by show 1<=2;decide,by show 2<=1000;decide,tw,fun q hq=>?_,fun H' v s h=>k H' v s ?_⟩
   ·simp only [List.mem_cons,List.not_mem_nil,or_false] at hq;rcases hq with rfl | rfl
    ·exact oa
    ·exact ob
   ·have e1:grL ([gD ss kn a,gD ss kn b].map (·.1))=gC (gD ss kn a).1 (gD ss kn b).1:=zX _ _;have e2:grL ([gD ss kn a,gD ss kn b].map (·.2))=gC (gD ss kn a).2 (gD ss kn b).2:=zX _ _;rw [e1,e2] at h;exact h
  | times p pb n b =>
   have hp:=he.1;have hn:1<=n/\n<=3:=hkd _ rfl;have pe:(Pt.row (.times p pb n b)).pr ss kn=kF n.toNat (gD ss kn b):=by simp only [Pt.pr,lH,gD]
   rw [pe] at k;simp only [Pt.ld,mW] at hld;have ek:(Pt.row (.times p pb n b)).kids.map (Pt.pr ss kn)=[gD ss kn b]:=by simp only [Pt.kids,List.map_cons,List.map_nil,Pt.pr]
   rw [ek] at tw;have le:iZ b<=n.toNat * iZ b:=by
    have:=Nat.mul_le_mul_right (iZ b) (show 1<=n.toNat by omega);omega
   have ob:=nN (hZ ss kn he.2.2).2 (by omega);obtain ⟨a1,rfl,x1,y1,ha,hx,hy⟩:=bB7 tw;have ob':=ob;have pq:(kF n.toNat (gD ss kn b)).1=((gD ss kn b).1.1 ^ n.toNat,(gD ss kn b).1.2 ^ n.toNat):=rfl;have pr2:(kF n.toNat (gD ss kn b)).2=fJ (gD ss kn b).2 (n,1):=by
    show dH ((gD ss kn b).2.1 * (n.toNat:Int)) ((gD ss kn b).2.2 * 1)=dH ((gD ss kn b).2.1 * n) ((gD ss kn b).2.2 * 1);rw [show (n.toNat:Int)=n by omega]
   clear ob pe;generalize kF n.toNat (gD ss kn b)=TP at k pq pr2;generalize gD ss kn b=PB at *;generalize ex1:PB.1.1 ^ n.toNat=X1 at *;generalize ex2:PB.1.2 ^ n.toNat=X2 at *;refine ⟨_,rfl,p,_,_,_,rfl,rfl,aX.of hp,rfl,rfl,_,rfl,bC (by rw [decide_eq_true_eq];exact nTW) ?_⟩;refine ⟨_,rfl,l,_,_,_,rfl,rfl,bN.of hl,rfl,a1,_,_,_,rfl,rfl,ha,rfl,_,rfl,p,_,_,_,rfl,rfl,aX.of hp,rfl,x1,PB.1,n,rfl,hx,ob'.1.ba,ob'.1.bb,by omega,by omega,fun r1 hr1'=>?_⟩;rw [ex1,ex2];obtain ⟨H2,e0,s2,h2⟩:=gJ hr1' (.tup [.int X1,.int X2]);rw [e0];clear e0;refine ⟨_,rfl,_,rfl,l,_,_,_,rfl,rfl,bN.of (s2 _ _ hl),rfl,a1,_,_,_,rfl,rfl,aX.ts s2 ha,rfl,_,rfl,p,_,_,_,rfl,rfl,aX.of (s2 _ _ hp),rfl,bM,fun r3 hr3'=>?_⟩;obtain ⟨H3,e0,s3,h3⟩:=gJ hr3' (.tup [.int n,.int 1]);rw [e0];clear e0;have s23:=s2.trans s3;have nb:fI 1000 ((n,1):Fr):=⟨show 0<=n by omega,(show (1:Int)<=1 by decide),(cE.of (n:=4) (show 0<=n by omega) (by omega)).mono (by decide),(cE.of (n:=4) (i:=1) (by decide) (by decide)).mono (by decide)⟩
   refine ⟨y1,r3,PB.2,(n,1),rfl,hy.s s23,bU.of h3,ob'.2,nb,fun r4 hr4'=>⟨bM,fun r5 hr5'=>?_⟩⟩;rw [<- pr2] at hr5' ⊢;have s4:=aB hr4' (.tup [.int TP.2.1,.int TP.2.2]);have h4:aW H3 r4 (.tup [.int TP.2.1,.int TP.2.2]) r4=some (.tup [.int TP.2.1,.int TP.2.2]):=aE;generalize aW H3 r4 (.tup [.int TP.2.1,.int TP.2.2])=H4 at s4 h4 hr5' ⊢;have s5:=aB hr5' (.tup [.ref r1,.ref r4]);refine k _ (.ref r5) (s23.trans (s4.trans s5)) ⟨r5,r1,r4,rfl,aX.of aE,?_,bU.ofU (s5 _ _ h4)⟩;rw [pq];exact bU.of ((s3.trans (s4.trans s5)) _ _ h2)
  | thr p w x d=>exact Bool.noConfusion (show false=true from hm)
  | lt p x t=>exact Bool.noConfusion (show false=true from hm)
  | tell p t=>exact Bool.noConfusion (show false=true from hm)
theorem bH5:(["inner","prices"]:List Str).Nodup:=by decide +kernel
theorem wY:aS ["program","kind","names","prices","place","part"] ["program","kind"] (aG aH7):=by refine ⟨rfl,rfl,rfl,?_,rfl,?_,?_⟩<;>decide +kernel
theorem bS3 {f:Addr}{fd:FuncData}(F:dO K "prices_of" "prices_of" aH7 f fd)
  {cT:Addr}(m_THROWS:mg "THROWS"=some (.ref cT)) (hT:∀ H,aX K H cT (dZ.map V.str)) {cF cF0 cF1:Addr}(m_FREE:mg "FREE"=some (.ref cF)) (hF:∀ H,aX K H cF [.ref cF0,.ref cF1]/\bU K H cF0 (1,1)/\bU K H cF1 (0,1))
  (C_Ned:Cl P w K mg base 5 ["program"] spNeeded "needed")
  (C_PlO:Cl P w K mg base 4 ["rows"] spPlOf "places_of")
  (C_IsR:Cl P w K mg base 1 ["part"] spIsRow "is_row")
  (C_IsI:Cl P w K mg base 2 ["row","names"] spIsI "is_idle")
  (C_POR:Cl P w K mg base 7 ["row","kind"] (aS6 K) "price_of_row")
  (C_PMd:Cl P w K mg base 5 ["part","prices"] (aR4 K) "price_made")
  (C_PRI:Cl P w K mg base 2 ["part"] spPRI "parts_right_in")
  (C_PlI:Cl P w K mg base 3 ["place","part"] spPlRI "places_right_in")
   :
  bQ P w K mg base dS (9) f fd ["program","kind"] (bK2 K):=by
 refine F.ok wY (fun vs H Q E h=>?_) (fun cdv A outer s H vs Q E hr h=>?_)
 ·obtain ⟨p,xs,rs,kn,n,rfl,_⟩:=h;rfl
 obtain ⟨p,xs,rs,kn,n,rfl,P0,N0,hkn,k⟩:=h;have hu:=kK hr;refine ⟨_,(aF (aK (i:=2) wY.nd rfl (Or.inl rfl) (bR C_Ned hr (aA (pv 0) aC)))
  (aF (aK (i:=3) wY.nd rfl (Or.inr rfl) aU6)
  (aF (dN PassesOwn.never rfl (dC (bR C_PlO hr (aA (bI aI (pv 0) aD) aC))) (fE rfl (bJ (aU (i:=4) wY.nd rfl (Or.inl rfl)) (bJ (aU (i:=5) wY.nd rfl (Or.inl rfl)) dY)))
  (aH (bT (PW.pt (iG (gE (bR C_IsR hr (aA (pv 5) aC))) (gT (gE (bR C_IsI hr (aA (pv 5) (aA (pv 2) aC))))))) (aH (dW hu (pv 3) (pv 4) (gX (v:= .ref cF) (by rfl) m_FREE rfl) rfl)) (aH (bT (PW.pt (iG (gE (bR C_IsR hr (aA (pv 5) aC))) (gT (oO (kB (bR C_PRI hr (aA (pv 5) aC)) (fun _=>rfl)))))) (aH (dW hu (pv 3) (pv 4) (bR C_POR hr (aA (pv 5) (aA (pv 1) aC))) rfl)) (aH (dW hu (pv 3) (pv 4) (bR C_PMd hr (aA (pv 5) (aA (dG ["inner","prices"] [none,some 3] (dC (bR C_PlI hr (aA (pv 4) (aA (pv 5) aC)))) (fun _ _ _ _=>(aU (i:=0) (bH5) rfl (Or.inl rfl))) (fun _ _ _ _=>fG) (fun _ _ _ _=>(cB hu (pv 1) (pv 0) (fun _ _=>rfl)))) aC))) rfl)))))))
  (aH (aM (pv 3)))))),?_⟩
 have c0:=P0.cnt;have hdp:=P0.dp;obtain ⟨v0,pr,hp,hpr⟩:=P0.ex;obtain ⟨pk,ks,w0,_,_,eks,_,n3,hkd⟩:=N0;refine ⟨_,rfl,p,xs,rs,rfl,P0,fun np ss H1 s1 h1 nds=>?_⟩;refine fun d hd1=>?_
 obtain ⟨H2,e0,s2,h2d⟩:=gJ hd1 (.dT []);rw [e0];clear e0;have s12:=s1.trans s2;refine ⟨_,rfl,p,_,_,.ref pr,rfl,rfl,aX.of (s12 _ _ hp),rfl,pr,rs,n,rfl,s12 _ _ hpr,bL.ts (.of s12) rs P0.rows,c0,hdp,hkd,fun r3 zs H3 s3 h3 tz=>?_⟩;have h3d:=s3 _ _ h2d;have s13:=s2.trans s3;have s03:=s1.trans s13;have h31:=s13 _ _ h1;have n3d:r3≠d:=fun z=>by rw [z,h3d] at h3;cases h3
 have ol:=aD7 (pl:=[]) (p:=pr) (rs:=rs);have nd:=bT0 [] pr rs;have ah:=bB9 [] pr rs;have al:∀ e∈eI ([],Pt.rows pr rs),sW H3 e.2/\e.1.length<=7/\e.2.kids.length<=cU rs+2/\e.2.ld<=6/\∀ q,e.2= .row q->KdR n q:=fun e he=>by
  have:=zN hkd e he;have:=P0.ld;exact ⟨bJ2 (s03 _ _ hpr) (bL.ts (.of s03) rs P0.rows) e he,by omega,aS5 e he,by omega,(zN hkd e he).2.2⟩
 have la:=qH ([],Pt.rows pr rs);have k':∀ H' kvs v,aZ H H'->H' d=some (.dT kvs)->cM kvs ([]:List Key)=some v->dE K H' v (gD ss kn rs)->Q (.ref d) H':=fun H' kvs v a b c e=>k H' d kvs ss v a b nds c e
 clear k hkd;generalize eL:eI ([],Pt.rows pr rs)=L at tz ol nd ah al la;have lz:=tz.length;refine ⟨r3,rfl,⟨_,bN.of h3⟩,eU (K:=K) (a:=r3) (xs:=zs) (fun i σ G=>∃ (kvs:List (List Key×V)) (v4 v5:Option V),σ=[some (.ref p),some (.int kn),some (.ref np),some (.ref d),v4,v5]/\lM d H3 G/\G d=some (.dT kvs)/\kvs.length<=i/\nI K G kvs ss kn (L.take i))
  ⟨[],_,_,rfl,lM.refl _ _,h3d,Nat.le_refl _,fun e he=>absurd he List.not_mem_nil⟩ (by rintro i σ G _ ⟨_,_,_,_,o,_⟩;exact bN.of (o _ _ n3d h3)) ?_ ?_⟩
 ·rintro D' i v σ G hv ⟨kvs,v4,v5,rfl,o,gd,lk,kw⟩;obtain ⟨⟨pl,e⟩,he,q,a,rfl,hq,ha⟩:=iN tz hv;have il:=(List.getElem?_eq_some_iff.mp he).1;obtain ⟨pe3,l7,kl,ld6,ekd⟩:=al _ (List.mem_of_getElem? he);have ts:=o.ts h3d;have pe:=pe3.ts ts;have ga:=ts _ _ ha;have gn:G np=some (.tup (ss.map V.str)):=ts _ _ h31;refine ⟨q,_,rfl,aX.of (ts _ _ hq),rfl,_,_,rfl,_,_,rfl,rfl,?_⟩;have fin:∀ G1 v,aZ G G1->dE K G1 v (e.pr ss kn)->∃ H4,jI G1 d (.ref a) v H4/\∃ (kvs:List (List Key×V)) (v4 v5:Option V),[some (V.ref p),some (V.int kn),some (V.ref np),some (V.ref d),some (V.ref a),some (V.ref e.p)]=[some (.ref p),some (.int kn),some (.ref np),some (.ref d),v4,v5]/\lM d H3 H4/\H4 d=some (.dT kvs)/\kvs.length<=i+1/\nI K H4 kvs ss kn (L.take (i+1)):=fun G1 v sg hp=>by
   have g1d:=sg _ _ gd;refine ⟨_,jI.t (k:=kyP pl) g1d (by rw [aW0];exact sg _ _ ga) (eY (by omega)),_,_,_,rfl,(o.trans (lM.of sg)).trans lM.upd,aE,by have:=cK kvs (kyP pl) v;omega,?_⟩;exact nI.put (e:=(pl,e)) (H:=G) kw nd he ((lM.of sg).trans lM.upd) gd (hp.off lM.upd g1d)
  refine ⟨_,rfl,e,rfl,pe,_,rfl,?_⟩
  by_cases ci:∃ r,e= .row r/\kZ ss r=true
  ·obtain ⟨r,rfl,ci⟩:=ci;refine bO rfl ⟨_,rfl,_,rfl,r,np,ss,rfl,pe,gn,_,rfl,bO ci ?_⟩;obtain ⟨H4,dp,z⟩:=fin G (.ref cF) (aZ.refl _) (by
    show dE K G (.ref cF) (lH ss kn r);rw [aW2 ci];exact ⟨cF,cF0,cF1,rfl,(hF _).1,(hF _).2.1,(hF _).2.2⟩)
   exact ⟨_,rfl,_,rfl,d,H4,rfl,dp,z⟩
  have els:∀ {A B:Prop},((e.isRow=false->B)/\(∀ r,e= .row r->kZ ss r=false->B))->B:=fun {A B} ⟨x,y⟩=>by
   cases e with
   | rows _ _=>exact x rfl
   | row r=>exact y r rfl (by simpa using fun z=>ci ⟨r,rfl,z⟩)
  by_cases cr:∃ r,e= .row r/\(Pt.row r).kids=[]
  ·obtain ⟨r,rfl,ck⟩:=cr;have nid:kZ ss r=false:=by simpa using fun z=>ci ⟨r,rfl,z⟩
   refine bO rfl ⟨_,rfl,_,rfl,r,np,ss,rfl,pe,gn,_,rfl,bC (by rw [nid];decide) ?_⟩;refine ⟨_,rfl,Pt.row r,rfl,pe,_,rfl,bO rfl ?_⟩;refine ⟨_,rfl,Pt.row r,rfl,pe,fun r5 G5 s5 n5 h5=>⟨_,.inl ⟨_,bN.of h5,rfl⟩,?_⟩⟩;rw [ck];refine bO rfl ?_;refine ⟨_,rfl,_,rfl,r,kn,rfl,eT.ts (.of s5) r pe,fun p' w' x' d' ed=>?_,fun G6 v6 s6 h6=>?_⟩
   ·have:=ekd _ rfl;rw [ed] at this;have t:(d'.kd:Int)=n:=this;omega
   ·obtain ⟨H4,dp,z⟩:=fin G6 v6 (s5.trans s6) (by
     show dE K G6 v6 (lH ss kn r);rw [aV3 nid ck];exact h6)
    exact ⟨_,rfl,_,rfl,d,H4,rfl,dp,z⟩
  have hm:e.made=true:=by
   cases e with
   | rows _ _=>rfl
   | row r=>exact vW fun z=>cr ⟨r,rfl,z⟩
  have last:∀ G5,aZ G G5->bI9 (lX 3) (lX 4) (aA6 (aR4 K) [] E0 (iL (lX 5) (iL (aQ8 (bJ0 K (aA6 spPlRI [] E0 (iL (lX 4) (iL (lX 5) tNil)))) [none,some 3] (aB5 0) tYes (bK5 (lX 1) (lX 0))) tNil)))
    { D' with nx:=fun σ G=>∃ (kvs:List (List Key×V)) (v4 v5:Option V),σ=[some (.ref p),some (.int kn),some (.ref np),some (.ref d),v4,v5]/\lM d H3 G/\G d=some (.dT kvs)/\kvs.length<=i+1/\nI K G kvs ss kn (L.take (i+1)),ct:=fun σ G=>∃ (kvs:List (List Key×V)) (v4 v5:Option V),σ=[some (.ref p),some (.int kn),some (.ref np),some (.ref d),v4,v5]/\lM d H3 G/\G d=some (.dT kvs)/\kvs.length<=i+1/\nI K G kvs ss kn (L.take (i+1)),bk:=D'.nx } [some (V.ref p),some (V.int kn),some (V.ref np),some (V.ref d),some (V.ref a),some (V.ref e.p)] G5:=fun G5 s5=>by
   refine ⟨_,rfl,_,rfl,_,rfl,(pl,e),a,rfl,s5 _ _ ga,(show pl.length<=100 by have:pl.length<=7:=l7;omega),(show e.kids.length<=4000 by have:e.kids.length<=cU rs+2:=kl;omega),pe.ts (.of s5),fun r6 ys6 G6 s6 n6 h6 t6=>⟨r6,rfl,⟨_,bN.of h6⟩,?_⟩⟩;have l6:=t6.length;rw [List.length_map,iX] at l6;replace l6:ys6.length=e.kids.length:=l6;have kl':e.kids.length<=cU rs+2:=kl;have s56:=s5.trans s6;refine eO (K:=K) (a:=r6) (xs:=ys6) (fun j us σ G'=>G'=G6/\(∃ v,σ=[v,some (.ref d)])/\dP (dE K G6) us ((e.kids.map (Pt.pr ss kn)).take j))
    (eY (by omega)) ⟨rfl,⟨_,rfl⟩,trivial⟩ (by rintro j us σ G' ⟨_,_,z⟩;rw [z.length,List.length_take];omega) (by rintro j us σ G' _ ⟨z,_⟩;rw [z];exact bN.of h6) ?_ ?_
   ·rintro j y us σ _ hy ⟨rfl,⟨v',rfl⟩,tu⟩;have jl:=(List.getElem?_eq_some_iff.mp hy).1;have jk:j < e.kids.length:=by omega
    obtain ⟨ky,hky,b,rfl,hb⟩:=iN t6 hy;rw [xW (e:=(pl,e)) jk] at hky;injection hky with hky
    subst hky;have ec:=uQ (e:=(pl,e)) (List.getElem?_eq_getElem jk);obtain ⟨u,hu1,hu2⟩:=kw _ (bP0 ah he _ (List.mem_of_getElem? ec));have dg:=eE.t (k:=kyP (pl++[(j:Int)])) (s56 _ _ gd) (by rw [aW0];exact hb);rw [show cM kvs (kyP (pl++[(j:Int)]))=some u from hu1] at dg;refine ⟨_,rfl,_,rfl,d,u,rfl,dg,rfl,⟨_,rfl⟩,?_⟩;rw [bF (show (e.kids.map (Pt.pr ss kn))[j]?=some (Pt.pr ss kn e.kids[j]) by rw [List.getElem?_map,List.getElem?_eq_getElem jk];rfl)];exact dP.append tu ⟨hu2.s s56,trivial⟩
   rintro us σ Gx ⟨ex,_,tu⟩ l9 hl9;replace ex:=ex.symm;subst ex;rw [l6, <- List.length_map (f:=Pt.pr ss kn) (as:=e.kids),List.take_length] at tu;obtain ⟨G9,e0,s9,h9⟩:=gJ hl9 (.lst us);rw [e0];clear e0;have s59:=s56.trans s9;refine ⟨e,l9,us,ss,kn,n,rfl,pe.ts (.of s59),hm,ld6,ekd,by omega,h9,tu.mono fun _ _ z=>z.s s9,fun G10 v10 s10 h10=>?_⟩;obtain ⟨H4,dp,z⟩:=fin G10 v10 (s59.trans s10) h10;exact ⟨_,rfl,_,rfl,d,H4,rfl,dp,z⟩
  cases e with
  | rows pp rr =>
   refine bC (fun z=>Bool.noConfusion (show false=true from z)) (bC (by decide) ?_);refine ⟨_,rfl,Pt.rows pp rr,rfl,pe,_,rfl,bC (fun z=>Bool.noConfusion (show false=true from z)) (bC (by decide) ?_)⟩;exact last G (aZ.refl _)
  | row r =>
   have nid:kZ ss r=false:=by simpa using fun z=>ci ⟨r,rfl,z⟩
   have nk:(Pt.row r).kids≠[]:=fun z=>cr ⟨r,rfl,z⟩
   refine bO rfl ⟨_,rfl,_,rfl,r,np,ss,rfl,pe,gn,_,rfl,bC (by rw [nid];decide) ?_⟩;refine ⟨_,rfl,Pt.row r,rfl,pe,_,rfl,bO rfl ?_⟩;refine ⟨_,rfl,Pt.row r,rfl,pe,fun r5 G5 s5 n5 h5=>⟨_,.inl ⟨_,bN.of h5,rfl⟩,?_⟩⟩;have ne:(gL (Pt.row r).kids).isEmpty=false:=by
    cases q:(Pt.row r).kids with
    | nil=>exact absurd q nk
    | cons _ _=>rfl
   rw [ne];exact bC (by decide) (last G5 s5)
 ·rintro σ G ⟨kvs,v4,v5,rfl,o,gd,lk,kw⟩;rw [lz,List.take_length] at kw;obtain ⟨u,h1',h2'⟩:=kw _ la;exact ⟨_,rfl,k' G kvs u (lM.same s1 ((lM.of s13).trans o) (s1.free hd1)) gd h1' h2'⟩
theorem bZ6:aS ["program","kind"] ["program","kind"] (aG aN7):=by refine ⟨rfl,rfl,rfl,?_,rfl,?_,?_⟩<;>decide +kernel
theorem bP9 {f:Addr}{fd:FuncData}(F:dO K "price" "price" aN7 f fd)
  (C_Prs:Cl P w K mg base 9 ["program","kind"] (bK2 K) "prices_of")
   :
  bQ P w K mg base dS (10) f fd ["program","kind"] (aX2 K):=by
 refine F.ok bZ6 (fun vs H Q E h=>?_) (fun cdv A outer s H vs Q E hr h=>?_)
 ·obtain ⟨p,xs,rs,kn,n,rfl,_⟩:=h;rfl
 obtain ⟨p,xs,rs,kn,n,rfl,P0,N0,hkn,k⟩:=h;have hu:=kK hr;refine ⟨_,(aH (aM (cB hu (bR C_Prs hr (aA (pv 0) (aA (pv 1) aC))) (aO aC) (fun _ _=>rfl)))),?_⟩;refine ⟨_,rfl,_,rfl,p,xs,rs,kn,n,rfl,P0,N0,hkn,fun H1 d kvs ss v s1 h1 nds hv hp=>⟨Nat.zero_le _,fun t ht=>?_⟩⟩;have dg:=eE.t (k:=[]) ((aB ht (.tup [])) _ _ h1) aE;rw [hv] at dg;exact ⟨d,v,rfl,dg,k _ ss v (s1.trans (aB ht _)) nds (hp.s (aB ht _))⟩
theorem bC0:(["kind","program"]:List Str).Nodup:=by decide +kernel
theorem cC4:aS ["program"] ["program"] (aG aH1):=by refine ⟨rfl,rfl,rfl,?_,rfl,?_,?_⟩<;>decide +kernel
theorem bM2 {f:Addr}{fd:FuncData}(F:dO K "greatest_price" "greatest_price" aH1 f fd)
  (C_GOf:Cl P w K mg base 3 ["prices"] (aV4 K) "greatest_of")
  (C_Pri:Cl P w K mg base 10 ["program","kind"] (aX2 K) "price")
  (m_range:mg "range"=none) (m_len:mg "len"=none) :
  bQ P w K mg base dS (11) f fd ["program"] (bK9 K):=by
 refine F.ok cC4 (fun vs H Q E h=>?_) (fun cdv A outer s H vs Q E hr h=>?_)
 ·obtain ⟨p,xs,rs,n,rfl,_⟩:=h;rfl
 obtain ⟨p,xs,rs,n,rfl,P0,N0,k⟩:=h;refine ⟨_,(aH (aM (bR C_GOf hr (aA (dG ["kind","program"] [none,some 0] (cY (by rfl) m_range (aA (bV cG (by rfl) m_len PySem.boot_len (aA (bI aI (pv 0) aD) aC)) aC)) (fun _ _ _ _=>(aU (i:=0) (bC0) rfl (Or.inl rfl))) (fun _ _ _ _=>fG) (fun _ _ _ _=>(bR C_Pri hr (aA (pv 1) (aA (pv 0) aC))))) aC)))),?_⟩;obtain ⟨pk,ks,w0,hp,hk,eks,n1,n3,hkd⟩:=id N0;refine ⟨_,rfl,p,_,_,.ref pk,rfl,rfl,aX.of hp,rfl,pk,_,rfl,.inr (aX.of hk),_,rfl,by omega,by rw [List.length_map];omega,fR (n:=(ks.map V.str).length) (fun i us σ G=>aZ H G/\(∃ v,σ=[v,some (.ref p)])/\us.length=i/\(1<=i->∃ ss,NdS rs ss/\dP (dE K G) us (iJ ss rs i)))
  (bD (by rw [List.length_map];omega)) ⟨aZ.refl _,⟨_,rfl⟩,rfl,fun z=>absurd z (by decide)⟩ (by rintro i us σ G ⟨_,_,z,_⟩;omega) ?_ ?_⟩
 ·rintro i us σ G hi ⟨s1,⟨v,rfl⟩,lu,h⟩;rw [List.length_map] at hi;rw [Int.zero_add];refine ⟨_,rfl,_,rfl,p,xs,rs,i,n,rfl,P0.ts (.of s1),N0.ts (.of s1),by omega,fun G2 ss v2 s2 nds h2=>⟨s1.trans s2,⟨_,rfl⟩,by rw [List.length_append,List.length_singleton];omega,fun _=>⟨ss,nds,?_⟩⟩⟩;have ea:iJ ss rs (i+1)=iJ ss rs i++[gD ss i rs]:=by
   unfold iJ;rw [List.range_succ,List.map_append];rfl
  rw [ea];refine dP.append ?_ ⟨h2,trivial⟩
  cases i with
  | zero =>
   have:us=[]:=List.eq_nil_of_length_eq_zero lu;rw [this];exact trivial
  | succ i =>
   obtain ⟨ss',nds',tu⟩:=h (by omega);rw [nds.eq nds'];exact tu.mono fun _ _ z=>z.s s2
 rintro us σ G ⟨s1,_,lu,h⟩ l9 hl9;rw [List.length_map] at lu h;obtain ⟨ss,nds,tu⟩:=h (by omega);rw [eks] at tu;obtain ⟨G9,e0,s9,h9⟩:=gJ hl9 (.lst us);rw [e0];clear e0;have ll:(iJ ss rs n).length=n:=by unfold iJ;rw [List.length_map,List.length_range]
 refine ⟨l9,us,iJ ss rs n,rfl,h9,by omega,by omega,tu.mono fun _ _ z=>z.s s9,fun q hq=>?_,fun H' v s hh=>k H' ss v (s1.trans (s9.trans s)) nds hh⟩;unfold iJ at hq;obtain ⟨j,_,rfl⟩:=List.mem_map.mp hq;exact nN (hZ ss j P0.rows).2 P0.ld
theorem bE7:(["_law_weights","_law_kind"]:List Str).Nodup:=by decide +kernel
theorem jQ:aS ["_law_row_here","_law_kind","_law_sums","_law_w","_law_wide","_law_p","_law_q","_law_factor","_law_top","_law_bottom"] ["_law_row_here","_law_kind"] (aG aO7):=by refine ⟨rfl,rfl,rfl,?_,rfl,?_,?_⟩<;>decide +kernel
theorem bQ5 {f:Addr}{fd:FuncData}(F:dO K "_law_row_price" "_law_row_price" aO7 f fd)
  (C_LTl:Cl P w K mg base 3 ["_law_steep_here","_law_k"] (aE9 2) "_law_tail")
  (C_LPw:Cl P w K mg base 1 ["_law_n","_law_k"] spPowI "_law_pow")
  (C_LLo:Cl P w K mg base 2 ["_law_top","_law_bottom"] spLowX "_law_lowest")
  (m_max:mg "max"=none) (m_min:mg "min"=none) :
  bQ P w K mg base dS (5) f fd ["_law_row_here","_law_kind"] (aV0 K):=by
 refine F.ok jQ (fun vs H Q E h=>?_) (fun cdv A outer s H vs Q E hr h=>?_)
 ·obtain ⟨r,kn,rfl,_⟩:=h;rfl
 obtain ⟨r,kn,rfl,hr0,hw,hkd,k⟩:=h;have hu:=kK hr;have hr1:eF 1 _:=hr.mono (by decide);refine ⟨_,(aF (bT (aV cH (bI aI (pv 0) aD) (aO (aA aJ (aA aJ aC))) rfl) (aH (aM (aO (aA (aO (aA aD (aA aD aC))) (aA (aO (aA aD (aA aD aC))) aC))))) bA)
  (aF (aK (i:=2) jQ.nd rfl (Or.inl rfl) (xH hu (oK (dJ aJ (bI aI (pv 0) aD) (dJ aJ (bI aI (pv 0) (sJ mN aD)) nR)) rfl rfl (by decide) (by decide)) (bI aI (pv 0) aD) (aO (aA (bI aI (pv 0) aD) aC)) ⟨rfl,rfl,rfl,rfl⟩))
  (aF (aK (i:=3) jQ.nd rfl (Or.inl rfl) (bV oR (by rfl) m_max PyProof.Rows.boot_max (aA (dG ["_law_weights","_law_kind"] [none,some 1] (mX (pv 2)) (fun _ _ _ _=>(aU (i:=0) (bE7) rfl (Or.inl rfl))) (fun _ _ _ _=>fG) (fun _ _ _ _=>(bI (qY K) (pv 0) (pv 1)))) aC)))
  (aF (bT (aV cR (pv 3) aD (bB _)) (aH (aM (aO (aA (aO (aA aD (aA aD aC))) (aA (aO (aA aD (aA aD aC))) aC))))) bA)
  (aF (bT (aV cR (bI aI (pv 0) aD) aJ (bB _)) (aF (aK (i:=4) jQ.nd rfl (Or.inl rfl) (aL cC (aL cV aD (bI aI (pv 0) aD)) aD))
  (aH (aM (aO (aA (aO (aA aD (aA aD aC))) (aA (bR C_LLo hr (aA (bV (mR rfl) (by rfl) m_min PyProof.Rows.boot_min (aA (pv 3) (aA (pv 4) aC))) (aA (pv 4) aC))) aC)))))) bA)
  (aF (fP (bI aI (pv 0) aD) (fE rfl (bJ (aU (i:=5) jQ.nd rfl (Or.inl rfl)) (bJ (aU (i:=6) jQ.nd rfl (Or.inl rfl)) dY))))
  (aF (aK (i:=7) jQ.nd rfl (Or.inl rfl) (aO (aA (bR C_LPw hr (aA (pv 6) (aA (pv 3) aC))) (aA (bR C_LPw hr (aA (pv 5) (aA (pv 3) aC))) aC))))
  (aF (bT (aV bK4 (bI aI (pv 0) aD) aJ (bB _)) (aH (aM (aO (aA (bR C_LLo hr (aA (bI aI (pv 7) aD) (aA (bI aI (pv 7) aD) aC))) (aA (aO (aA aD (aA aD aC))) aC))))) bA)
  (aF (fP (bI aI (pv 0) aD) (fE rfl (bJ (aU (i:=5) jQ.nd rfl (Or.inl rfl)) (bJ (aU (i:=6) jQ.nd rfl (Or.inl rfl)) dY))))
  (aF (aK (i:=7) jQ.nd rfl (Or.inl rfl) (aO (aA (aL cV (bI aI (pv 7) aD) (bR C_LPw hr (aA (pv 6) (aA (aL cV aD (pv 3)) aC)))) (aA (aL cV (bI aI (pv 7) aD) (bR C_LPw hr (aA (pv 5) (aA (aL cV aD (pv 3)) aC)))) aC))))
  (aF (fP (bR C_LTl hr (aA (bI aI (pv 0) aD) (aA (aL cZ (aL cZ (bI aI (pv 0) aD) (pv 3)) (bI aI (pv 0) aD)) aC))) (fE rfl (bJ (aU (i:=8) jQ.nd rfl (Or.inl rfl)) (bJ (aU (i:=9) jQ.nd rfl (Or.inl rfl)) dY))))
  (aH (aM (aO (aA (bR C_LLo hr (aA (bI aI (pv 7) aD) (aA (bI aI (pv 7) aD) aC))) (aA (bR C_LLo hr (aA (pv 8) (aA (pv 9) aC))) aC)))))))))))))))),?_⟩
 have hr1:=eT.at hr0;refine ⟨_,rfl,r.p,_,_,.str r.w,rfl,rfl,aX.of hr1,jG,bM,fun t0 ht0=>?_⟩;have s0:=aB ht0 (.tup [.str "let",.str "tell"]);refine ⟨t0,[.str "let",.str "tell"],rfl,.inr (aX.of aE),rfl,by decide,_,rfl,?_⟩;generalize aW H t0 (.tup [.str "let",.str "tell"])=H0 at s0 ⊢;have ei:lC (V.str r.w) [.str "let",.str "tell"]=decide (r.w∈(["let","tell"]:List Str)):=cJ _ ["let","tell"]
 cases r with
 | lt p x t=>exact bO (ei.trans (decide_eq_true (by show ("let": Str)∈_;decide +kernel))) (kO fun H' v s h=>k H' v (s0.trans s) h)
 | tell p t=>exact bO (ei.trans (decide_eq_true (by show ("tell": Str)∈_;decide +kernel))) (kO fun H' v s h=>k H' v (s0.trans s) h)
 | when p pa pb t a b=>exact absurd (by show ("when": Str)∈_;decide +kernel) hw
 | times p pb n b=>exact absurd (by show ("times": Str)∈_;decide +kernel) hw
 | thr p w x d =>
 obtain ⟨hp,ok⟩:=hr0;have nw:¬ w∈(["let","tell"]:List Str):=by
  have e:=ok.wd;rw [e]
  cases d.T with
  | lad _ _ _ _=>show ¬ ("ladder": Str)∈_;decide +kernel
  | fla _ _ _=>show ¬ ("flat": Str)∈_;decide +kernel
  | cho _ _ _ _=>show ¬ ("choose": Str)∈_;decide +kernel
  | fst _ _ _ _ _ _ _=>show ¬ ("first": Str)∈_;decide +kernel
 refine bC (fun z=>nw (of_decide_eq_true (ei.symm.trans z))) ?_;clear ei nw hw hr1;have hkd':=hkd p w x d rfl;clear hkd;replace k:∀ H' v,aZ H H'->dE K H' v (kR d.T (wK d kn))->Q v H':=k;have ewd:=ok.wd;subst ewd;obtain ⟨c2,c3,e2,e3,so⟩:=aT6 ok.at' (x:=x);have hp0:=s0 _ _ hp;refine fun dd hdd=>?_
 have hpd:=(aB hdd (.dK [])) _ _ hp0;refine ⟨_,rfl,p,_,_,c2,rfl,rfl,aX.of hpd,e2,_,rfl,3,rfl,p,_,_,c3,rfl,rfl,aX.of hpd,e3,aE,[((Sum.inr "choose": Key),c2),((Sum.inr "first": Key),c3)],rfl,by show 2<=15;decide,?_⟩;rw [zU];have mk:=aR0 c2 c3 d.T.wd;generalize eJ [] [((Sum.inr "choose": Key),c2),((Sum.inr "first": Key),c3)]=kv at mk ⊢;obtain ⟨H3,e0,s3,h3⟩:=gJ hdd (.dK kv);rw [e0];clear e0;have s03:=s0.trans s3;refine ⟨dd,rfl,.inl ⟨kv,.inl h3⟩,_,rfl,p,_,_,_,rfl,rfl,aX.of (s03 _ _ hp),jG,_,rfl,p,_,_,c2,rfl,rfl,aX.of (s03 _ _ hp),e2,iT,fun t4 ht4=>⟨cM kv (Sum.inr d.T.wd:Key),eE.k (k:=(Sum.inr d.T.wd:Key)) ((aB ht4 (.tup [c2])) _ _ h3),?_⟩⟩;rw [mk];have s1:=s03.trans (aB ht4 (.tup [c2]));have h4:aW H3 t4 (.tup [c2]) t4=some (.tup [c2]):=aE;generalize aW H3 t4 (.tup [c2])=H1 at s1 h4 ⊢;have sums:∃ vt us,(if d.T.wd="first" then some c3 else if d.T.wd="choose" then some c2 else none).getD (V.ref t4)= .ref vt/\H1 vt=some (.tup us)/\dP (nO H1) us d.wss:=by
  rcases so with ⟨n1,n2,w,ws,rfl,hws,ew⟩ | ⟨sm,us,hsm,tw,⟨e,rfl⟩ | ⟨e,rfl⟩⟩
  ·rw [if_neg n2,if_neg n1];exact ⟨t4,_,rfl,h4,by rw [ew];exact ⟨⟨w,rfl,s1 _ _ hws⟩,trivial⟩⟩
  ·rw [if_neg (by rw [e];exact nCF),if_pos e];exact ⟨sm,us,rfl,s1 _ _ hsm,tw.mono fun _ _ z=>z.ts (.of s1)⟩
  ·rw [if_pos e];exact ⟨sm,us,rfl,s1 _ _ hsm,tw.mono fun _ _ z=>z.ts (.of s1)⟩
 obtain ⟨vt,us,evt,ht,tw⟩:=sums;rw [evt];clear so h4 mk h3 s3 s03 hp0 hpd evt;refine ⟨_,rfl,vt,rfl,⟨_,aX.of ht⟩,qM (xs:=us) (fun i zs σ G=>G=H1/\(∃ v,σ=[v,some (.int kn)])/\zs=((d.wss.map fun ws=>ws.getD kn 0).take i).map V.int)
  (bD (by have:=tw.length;have:=ok.ws.l4;omega)) ⟨rfl,⟨_,rfl⟩,rfl⟩ (by rintro i zs σ G ⟨_,_,e⟩;rw [e,List.length_map,List.length_take];omega) (by rintro i zs σ G _ ⟨e,_⟩;rw [e];exact aX.of ht) ?_ ?_⟩
 ·rintro j y zs σ _ hy ⟨rfl,⟨v,rfl⟩,rfl⟩;obtain ⟨ws,hws,aw,rfl,hia⟩:=iN tw hy;have lw:=(ok.ws.ws ws (List.mem_of_getElem? hws)).1;refine ⟨_,rfl,_,rfl,aw,_,_,_,rfl,rfl,aX.of hia,fW (bJ9 (by omega)),rfl,⟨_,rfl⟩,?_⟩;have e:(d.wss.map fun ws=>ws.getD kn 0)[j]?=some (ws.getD kn 0):=by rw [List.getElem?_map,hws];rfl
  rw [bF e,List.map_append];rfl
 rintro zs σ Gx ⟨ex,_,rfl⟩ l9 hl9;replace ex:=ex.symm;subst ex;rw [aC4 tw];refine ⟨l9,_,rfl,bN.of aE,aX0 ok.ws kn,fun wI hin hbd=>?_⟩;have s2:=s1.trans (aB hl9 (.lst ((d.wss.map fun ws=>ws.getD kn 0).map V.int)));generalize aW H1 l9 (.lst ((d.wss.map fun ws=>ws.getD kn 0).map V.int))=H2 at s2 ⊢;have ew:=bJ1 ok.ws hin hbd;have w03:=xM ok.ws kn;clear hin hbd hl9 tw ht s1;subst ew;generalize ewk:wK d kn=wI at w03 k ⊢;obtain ⟨w0,w3⟩:=w03;refine ⟨_,rfl,rfl,_,rfl,?_⟩
 by_cases c0:wI=0
 ·refine bO (by rw [c0];exact decide_eq_true rfl) ?_;refine kO (K:=K) fun H' v s h=>k H' v (s2.trans s) ?_
  unfold kR;rw [if_pos c0];exact h
 refine bC (fun z=>c0 (by have z:=of_decide_eq_true z;injection z)) ?_;have tk:=zC ok.ok w0 w3;replace hp:=s2 _ _ hp;have vat:=ok.at'.ts (.of s2);have tok:=ok.ok;have kk:∀ H' v,aZ H2 H'->dE K H' v (kR d.T wI)->Q v H':=fun H' v s=>k H' v (s2.trans s)
 clear k ok s2 hkd' ewk;unfold kR at kk tk;rw [if_neg c0] at kk tk;obtain ⟨vs,T,wss,kd⟩:=d;replace hp:H2 p=some (.tup (.str T.wd :: .str x :: vs)):=hp;have low:∀ {st:Addr}{pa qa:Int}{r:List V},tJ pa qa->fH H2 st pa qa->vs=r->True:=fun _ _ _=>trivial
 cases T with
 | fla r lo hi =>
  obtain ⟨wa,ws,e,_,_⟩:=vat;replace e:vs=_:=e;subst e;obtain ⟨r0,r4⟩:=tok;replace r0:0<=r:=r0;replace r4:r<=4:=r4;refine ⟨_,rfl,p,_,_,_,rfl,rfl,aX.of hp,rfl,rfl,_,rfl,bO (decide_eq_true rfl) ?_⟩;refine ⟨_,rfl,p,_,_,_,rfl,rfl,aX.of hp,rfl,_,_,rfl,rfl,⟨4,4,.of (by decide) (by decide),.of r0 (by omega),by decide,by decide⟩,_,_,rfl,rfl,?_⟩;have m0:0<=(if 2 * r+1 < wI then 2 * r+1 else wI):=by split <;> omega
  refine ⟨bM,fun a1 ha1=>⟨_,rfl,_,rfl,wI,2 * r+1,rfl,_,rfl,_,_,rfl,m0,by omega,⟨10,.of (by omega) (by omega),by decide⟩,fun u hu'=>⟨bM,fun t ht=>?_⟩⟩⟩;have s3:=aB ha1 (.tup [.int 1,.int 1]);have s4:=aB hu' (.tup [.int (dH (if 2 * r+1 < wI then 2 * r+1 else wI) (2 * r+1)).1,.int (dH (if 2 * r+1 < wI then 2 * r+1 else wI) (2 * r+1)).2]);exact kk _ (.ref t) (s3.trans (s4.trans (aB ht _))) ⟨t,a1,u,rfl,aX.of aE,bU.of ((s4.trans (aB ht _)) _ _ aE),bU.ofU ((aB ht _) _ _ aE)⟩
 | lad pa qa lo hi =>
  obtain ⟨wa,ws,st,e,_,_,h1⟩:=vat;replace e:vs=_:=e;subst e;have p1:=(show tJ pa qa from tok).st.p1;have pq:=(show tJ pa qa from tok).st.pq;have q9:=(show tJ pa qa from tok).st.q9;refine ⟨_,rfl,p,_,_,_,rfl,rfl,aX.of hp,rfl,rfl,_,rfl,bC (by rw [decide_eq_true_eq];exact nFL) ?_⟩;refine ⟨_,rfl,p,_,_,_,rfl,rfl,aX.of hp,rfl,st,_,rfl,aX.of h1,rfl,_,_,rfl,_,_,rfl,rfl,?_⟩;refine ⟨_,rfl,_,rfl,qa,wI,rfl,by omega,q9,w0,by omega,_,rfl,_,rfl,pa,wI,rfl,by omega,by omega,w0,by omega,bM,fun tf htf=>?_⟩;obtain ⟨H3,e0,s3,h3⟩:=gJ htf (.tup [.int (qa ^ wI.toNat),.int (pa ^ wI.toNat)]);rw [e0];clear e0;refine ⟨_,rfl,p,_,_,_,rfl,rfl,aX.of (s3 _ _ hp),rfl,rfl,_,rfl,bO (by show (!decide (V.str "ladder"=V.str "first"))=true;rw [decide_eq_false nIL];rfl) ?_⟩;refine ⟨_,rfl,tf,_,_,_,rfl,rfl,aX.of h3,qX _ _,_,rfl,tf,_,_,_,rfl,rfl,aX.of h3,mL _ _,_,_,rfl,Int.pow_nonneg (by omega),pw1 p1 _,⟨60,tk.2.1.bb,by decide⟩,fun u hu'=>?_⟩
  have el:dH (qa ^ wI.toNat) (pa ^ wI.toNat)=(qa ^ wI.toNat,pa ^ wI.toNat):=tk.1.f.l;rw [el];obtain ⟨H4,e0,s4,h4⟩:=gJ hu' (.tup [.int (qa ^ wI.toNat),.int (pa ^ wI.toNat)]);rw [e0];clear e0;refine ⟨bM,fun z hz=>⟨bM,fun t ht=>?_⟩⟩;exact kk _ (.ref t) (s3.trans (s4.trans ((aB hz _).trans (aB ht _)))) ⟨t,u,z,rfl,aX.of aE,bU.of (((aB hz _).trans (aB ht _)) _ _ h4),bU.of ((aB ht _) _ _ aE)⟩
 | cho pa qa lo hi =>
  obtain ⟨sm,us',st,e,_,_,h1⟩:=vat;replace e:vs=_:=e;subst e;have p1:=(show tJ pa qa from tok).st.p1;have pq:=(show tJ pa qa from tok).st.pq;have q9:=(show tJ pa qa from tok).st.q9;refine ⟨_,rfl,p,_,_,_,rfl,rfl,aX.of hp,rfl,rfl,_,rfl,bC (by rw [decide_eq_true_eq];exact nFC) ?_⟩;refine ⟨_,rfl,p,_,_,_,rfl,rfl,aX.of hp,rfl,st,_,rfl,aX.of h1,rfl,_,_,rfl,_,_,rfl,rfl,?_⟩;refine ⟨_,rfl,_,rfl,qa,wI,rfl,by omega,q9,w0,by omega,_,rfl,_,rfl,pa,wI,rfl,by omega,by omega,w0,by omega,bM,fun tf htf=>?_⟩;obtain ⟨H3,e0,s3,h3⟩:=gJ htf (.tup [.int (qa ^ wI.toNat),.int (pa ^ wI.toNat)]);rw [e0];clear e0;refine ⟨_,rfl,p,_,_,_,rfl,rfl,aX.of (s3 _ _ hp),rfl,rfl,_,rfl,bO (by show (!decide (V.str "choose"=V.str "first"))=true;rw [decide_eq_false nIC];rfl) ?_⟩;refine ⟨_,rfl,tf,_,_,_,rfl,rfl,aX.of h3,qX _ _,_,rfl,tf,_,_,_,rfl,rfl,aX.of h3,mL _ _,_,_,rfl,Int.pow_nonneg (by omega),pw1 p1 _,⟨60,tk.2.1.bb,by decide⟩,fun u hu'=>?_⟩
  have el:dH (qa ^ wI.toNat) (pa ^ wI.toNat)=(qa ^ wI.toNat,pa ^ wI.toNat):=tk.1.f.l;rw [el];obtain ⟨H4,e0,s4,h4⟩:=gJ hu' (.tup [.int (qa ^ wI.toNat),.int (pa ^ wI.toNat)]);rw [e0];clear e0;refine ⟨bM,fun z hz=>⟨bM,fun t ht=>?_⟩⟩;exact kk _ (.ref t) (s3.trans (s4.trans ((aB hz _).trans (aB ht _)))) ⟨t,u,z,rfl,aX.of aE,bU.of (((aB hz _).trans (aB ht _)) _ _ h4),bU.of ((aB ht _) _ _ aE)⟩
 | fst pa qa pb qb mk lo hi =>
  obtain ⟨sm,us',sa,sb,e,_,_,h1,h2⟩:=vat;replace e:vs=_:=e;subst e;obtain ⟨ca,cb,k0,k9⟩:=tok;replace kk:∀ H' v,aZ H2 H'->dE K H' v (dH (qa ^ wI.toNat * qb ^ (2 * wI).toNat) (pa ^ wI.toNat * pb ^ (2 * wI).toNat),dH (tN pa qa (hi - wI - mk)) (tD pa qa (hi - wI - mk)))->Q v H':=kk;clear tk;have p1:=ca.st.p1;have pq:=ca.st.pq;have q9:=ca.st.q9;have p1':=cb.st.p1;have pq':=cb.st.pq;have q9':=cb.st.q9;refine ⟨_,rfl,p,_,_,_,rfl,rfl,aX.of hp,rfl,rfl,_,rfl,bC (by rw [decide_eq_true_eq];exact nFF) ?_⟩;refine ⟨_,rfl,p,_,_,_,rfl,rfl,aX.of hp,rfl,sa,_,rfl,aX.of h1,rfl,_,_,rfl,_,_,rfl,rfl,?_⟩;refine ⟨_,rfl,_,rfl,qa,wI,rfl,by omega,q9,w0,by omega,_,rfl,_,rfl,pa,wI,rfl,by omega,by omega,w0,by omega,bM,fun tf htf=>?_⟩;have b1:cE 25 (qa ^ wI.toNat):=pwb (by omega) q9 (by omega);have b2:cE 25 (pa ^ wI.toNat):=pwb (by omega) (by omega) (by omega);have b3:cE 25 (qb ^ (2 * wI).toNat):=pwb (by omega) q9' (by omega)
  have b4':cE 25 (pb ^ (2 * wI).toNat):=pwb (by omega) (by omega) (by omega);have m1:0<=qa ^ wI.toNat * qb ^ (2 * wI).toNat:=Int.mul_nonneg (Int.pow_nonneg (by omega)) (Int.pow_nonneg (by omega));have m2:1<=pa ^ wI.toNat * pb ^ (2 * wI).toNat:=by
   have:=Int.mul_pos (show 0 < pa ^ wI.toNat by have:=pw1 p1 wI.toNat;omega) (show 0 < pb ^ (2 * wI).toNat by have:=pw1 p1' (2 * wI).toNat;omega);omega
  have b5:=(b2.mul b4').mono (show 25+25<=60 by decide);generalize qa ^ wI.toNat=A1 at *;generalize pa ^ wI.toNat=A2 at *;generalize eB1:qb ^ (2 * wI).toNat=B1 at *;generalize eB2:pb ^ (2 * wI).toNat=B2 at *;obtain ⟨H3,e0,s3,h3⟩:=gJ htf (.tup [.int A1,.int A2]);rw [e0];clear e0;have hp3:=s3 _ _ hp;refine ⟨_,rfl,p,_,_,_,rfl,rfl,aX.of hp3,rfl,rfl,_,rfl,bC (by show ¬ (!decide (V.str "first"=V.str "first"))=true;rw [decide_eq_true rfl];decide) ?_⟩;refine ⟨_,rfl,p,_,_,_,rfl,rfl,aX.of hp3,rfl,sb,_,rfl,aX.of (s3 _ _ h2),rfl,_,_,rfl,_,_,rfl,rfl,?_⟩;refine ⟨_,rfl,tf,_,_,_,rfl,rfl,aX.of h3,qX _ _,_,rfl,_,rfl,_,_,rfl,rfl,⟨4,4,.of (by decide) (by decide),.of w0 (by omega),by decide,by decide⟩,qb,2 * wI,rfl,by omega,q9',by omega,by omega,_,_,rfl,rfl,⟨25,25,b1,by rw [eB1];exact b3,by decide,by decide⟩,?_⟩;refine ⟨_,rfl,tf,_,_,_,rfl,rfl,aX.of h3,mL _ _,_,rfl,_,rfl,_,_,rfl,rfl,⟨4,4,.of (by decide) (by decide),.of w0 (by omega),by decide,by decide⟩,pb,2 * wI,rfl,by omega,by omega,by omega,by omega,_,_,rfl,rfl,⟨25,25,b2,by rw [eB2];exact b4',by decide,by decide⟩,bM,fun tg htg=>?_⟩
  rw [eB1,eB2];obtain ⟨H4,e0,s4,h4⟩:=gJ htg (.tup [.int (A1 * B1),.int (A2 * B2)]);rw [e0];clear e0;have s34:=s3.trans s4;have hp4:=s34 _ _ hp;have td:=cC2 ca.st (k:=hi - wI - mk) (by omega) (by omega);refine ⟨_,rfl,p,_,_,_,rfl,rfl,aX.of hp4,rfl,_,rfl,p,_,_,_,rfl,rfl,aX.of hp4,rfl,_,rfl,_,_,rfl,rfl,_,rfl,p,_,_,_,rfl,rfl,aX.of hp4,rfl,_,_,rfl,rfl,sa,pa,qa,hi - wI - mk,rfl,s34 _ _ h1,ca.st,by omega,by omega,(fun z=>by cases z),fun H5 r5 s5 h5=>?_⟩;refine ⟨r5,_,rfl,aX.of h5,rfl,_,_,rfl,_,_,rfl,rfl,?_⟩;generalize tN pa qa (hi - wI - mk)=N1 at *;generalize tD pa qa (hi - wI - mk)=N2 at *;refine ⟨_,rfl,tg,_,_,_,rfl,rfl,aX.of (s5 _ _ h4),qX _ _,_,rfl,tg,_,_,_,rfl,rfl,aX.of (s5 _ _ h4),mL _ _,_,_,rfl,m1,m2,⟨60,b5,by decide⟩,fun u hu'=>?_⟩;obtain ⟨H6,e0,s6,h6⟩:=gJ hu' (.tup [.int (dH (A1 * B1) (A2 * B2)).1,.int (dH (A1 * B1) (A2 * B2)).2]);rw [e0];clear e0;refine ⟨_,rfl,_,rfl,N1,N2,rfl,td.2.2.1,td.2.1,⟨42,td.1,by decide⟩,fun u2 hu2=>⟨bM,fun t ht=>?_⟩⟩
  have s7:=aB hu2 (.tup [.int (dH N1 N2).1,.int (dH N1 N2).2]);exact kk _ (.ref t) (s34.trans (s5.trans (s6.trans (s7.trans (aB ht _))))) ⟨t,u,u2,rfl,aX.of aE,bU.ofU ((s7.trans (aB ht _)) _ _ h6),bU.ofU ((aB ht _) _ _ aE)⟩
theorem pM:aS ["_law_rule_here","_law_row_here","_law_some","_law_kind","_law_factor","_law_rest","_law_one"] ["_law_rule_here","_law_row_here","_law_some","_law_kind"] (aG aK6):=by refine ⟨rfl,rfl,rfl,?_,rfl,?_,?_⟩<;>decide +kernel
theorem bO2 {f:Addr}{fd:FuncData}(F:dO K "_law_joined" "_law_joined" aK6 f fd)
  (C_LRP:Cl P w K mg base 5 ["_law_row_here","_law_kind"] (aV0 K) "_law_row_price")
  (C_LTm:Cl P w K mg base 3 ["_law_one","_law_other"] (lD K) "_law_times")
  (C_LAd:Cl P w K mg base 3 ["_law_one","_law_other"] (tY K) "_law_added")
  (C_LGr:Cl P w K mg base 2 ["_law_one","_law_other"] (bA0 K) "_law_greater")
   :
  bQ P w K mg base dS (6) f fd ["_law_rule_here","_law_row_here","_law_some","_law_kind"] (bJ4 K):=by
 refine F.ok pM (fun vs H Q E h=>?_) (fun cdv A outer s H vs Q E hr h=>?_)
 ·obtain ⟨e,l,us,ss,kn,kd,rfl,_⟩:=h;rfl
 obtain ⟨e,l,us,ss,kn,kd,rfl,he,hld,hkd,hkn,l4,hl,tw,k⟩:=h;refine ⟨_,(aF (bT (aV cR (pv 0) aJ (bB _)) (aH (aM (aO (aA (aO (aA aD (aA aD aC))) (aA (aO (aA aD (aA aD aC))) aC))))) bA)
  (aF (bT (aV cH (pv 0) (aO (aA aJ (aA aJ aC))) rfl) (aH (aM (bR C_LRP hr (aA (pv 1) (aA (pv 3) aC))))) bA)
  (aF (bT (aV cR (pv 0) aJ (bB _)) (aH (aM (aO (aA (bR C_LGr hr (aA (bI aI (bI bZ (pv 2) aD) aD) (aA (bI aI (bI bZ (pv 2) aD) aD) aC))) (aA (bR C_LGr hr (aA (bI aI (bI bZ (pv 2) aD) aD) (aA (bI aI (bI bZ (pv 2) aD) aD) aC))) aC))))) bA)
  (aF (bI3 (bT (aV cR (pv 0) aJ (bB _)) (aH (aK (i:=2) pM.nd rfl (Or.inl rfl) (aL aW1 (pv 2) (bI aI (pv 1) aD)))) bA))
  (aF (fP (aO (aA (aO (aA aD (aA aD aC))) (aA (aO (aA aD (aA aD aC))) aC))) (fE rfl (bJ (aU (i:=4) pM.nd rfl (Or.inl rfl)) (bJ (aU (i:=5) pM.nd rfl (Or.inl rfl)) dY))))
  (aF (dN PassesOwn.never rfl (dC (pv 2)) (aU (i:=6) pM.nd rfl (Or.inl rfl))
  (aF (aK (i:=4) pM.nd rfl (Or.inl rfl) (bR C_LTm hr (aA (pv 4) (aA (bI aI (pv 6) aD) aC))))
  (aH (aK (i:=5) pM.nd rfl (Or.inl rfl) (bR C_LAd hr (aA (pv 5) (aA (bI aI (pv 6) aD) aC)))))))
  (aH (aM (aO (aA (pv 4) (aA (pv 5) aC))))))))))),?_⟩
 have tl:=tw.length;rw [List.length_map] at tl
 by_cases ci:∃ r,e= .row r/\kZ ss r=true
 ·obtain ⟨r,rfl,ci⟩:=ci;rw [aS1 ci];refine ⟨_,rfl,rfl,_,rfl,bO (decide_eq_true rfl) ?_⟩;exact kO fun H' v s h=>k H' v s (by show dE K H' v (lH ss kn r);rw [aW2 ci];exact h)
 by_cases cr:∃ r,e= .row r/\(Pt.row r).kids=[]
 ·obtain ⟨r,rfl,ck⟩:=cr;have ni:kZ ss r=false:=by simpa using fun z=>ci ⟨r,rfl,z⟩
  have er:=aQ4 ni ck;have nw:=bE0 he ck;generalize (Pt.row r).rule ss=W at er ⊢;refine ⟨_,rfl,rfl,_,rfl,bC (by rw [decide_eq_true_eq];rcases er with rfl | rfl <;> decide +kernel) ?_⟩;refine ⟨_,rfl,bM,fun t ht=>?_⟩;have s1:=aB ht (.tup [.str "throw",.str "plain"]);refine ⟨t,[.str "throw",.str "plain"],rfl,.inr (aX.of aE),rfl,by decide,_,rfl,?_⟩;generalize aW H t (.tup [.str "throw",.str "plain"])=H1 at s1 ⊢;have ei:lC (V.str W) [.str "throw",.str "plain"]=decide (W∈(["throw","plain"]:List Str)):=cJ _ ["throw","plain"];refine bO (ei.trans (decide_eq_true (by rcases er with rfl | rfl <;> decide +kernel))) ?_;refine ⟨_,rfl,_,rfl,r,kn,rfl,eT.ts (.of s1) r he,nw,fun p' w' x' d' ed=>?_,fun H' v s h=>k H' v (s1.trans s) ?_⟩
  ·have:=hkd _ rfl;rw [ed] at this;have t:(d'.kd:Int)=kd:=this;omega
  ·show dE K H' v (lH ss kn r);rw [aV3 ni ck];exact h
 have hm:e.made=true:=by
  cases e with
  | rows _ _=>rfl
  | row r=>exact vW fun z=>cr ⟨r,rfl,z⟩
 by_cases cw:∃ p pa pb t a b,e= .row (.when p pa pb t a b)
 ·obtain ⟨p,pa,pb,t0,a,b,rfl⟩:=cw;have pe:(Pt.row (.when p pa pb t0 a b)).pr ss kn=pW (gD ss kn a) (gD ss kn b):=by simp only [Pt.pr,lH,gD]
  rw [pe] at k;simp only [Pt.ld,mW] at hld;have ek:(Pt.row (.when p pa pb t0 a b)).kids.map (Pt.pr ss kn)=[gD ss kn a,gD ss kn b]:=by simp only [Pt.kids,List.map_cons,List.map_nil,Pt.pr]
  rw [ek] at tw;have oa:=nN (hZ ss kn he.2.2.2.2.1).2 (by omega);have ob:=nN (hZ ss kn he.2.2.2.2.2).2 (by omega);obtain ⟨u1,e1,a1,x1,y1,rfl,ha1,hx1,hy1⟩:=uK tw (i:=0) rfl;obtain ⟨u2,e2,a2,x2,y2,rfl,ha2,hx2,hy2⟩:=uK tw (i:=1) rfl;show bD2 _ _ _ [some (.str "either"),some (.ref p),some (.ref l),some (.int kn),none,none,none] H;refine ⟨_,rfl,rfl,_,rfl,bC (by rw [decide_eq_true_eq];decide +kernel) ?_⟩;refine ⟨_,rfl,bM,fun t ht=>?_⟩;have s1:=aB ht (.tup [.str "throw",.str "plain"]);refine ⟨t,[.str "throw",.str "plain"],rfl,.inr (aX.of aE),rfl,by decide,_,rfl,bC (by decide +kernel) ?_⟩;generalize aW H t (.tup [.str "throw",.str "plain"])=H1 at s1 ⊢;refine ⟨_,rfl,rfl,_,rfl,bO (decide_eq_true rfl) ?_⟩;have l1:=s1 _ _ hl;refine ⟨_,rfl,l,_,_,.ref a1,rfl,rfl,bN.of l1,fW (j:=0) e1,a1,_,_,.ref x1,rfl,rfl,aX.ts s1 ha1,rfl,_,rfl,l,_,_,.ref a2,rfl,rfl,bN.of l1,fW (j:=1) e2,a2,_,_,.ref x2,rfl,rfl,aX.ts s1 ha2,rfl,x1,x2,_,_,rfl,hx1.s s1,hx2.s s1,oa.1,ob.1,fun H2 r2 s2 h2=>?_⟩
  have s12:=s1.trans s2;have l2:=s12 _ _ hl;refine ⟨_,rfl,l,_,_,.ref a1,rfl,rfl,bN.of l2,fW (j:=0) e1,a1,_,_,.ref y1,rfl,rfl,aX.ts s12 ha1,rfl,_,rfl,l,_,_,.ref a2,rfl,rfl,bN.of l2,fW (j:=1) e2,a2,_,_,.ref y2,rfl,rfl,aX.ts s12 ha2,rfl,y1,y2,_,_,rfl,hy1.s s12,hy2.s s12,oa.2,ob.2,fun H3 r3 s3 h3=>⟨bM,fun t4 ht4=>?_⟩⟩;exact k _ (.ref t4) (s12.trans (s3.trans (aB ht4 _))) ⟨t4,r2,r3,rfl,aX.of aE,h2.s (s3.trans (aB ht4 _)),h3.s (aB ht4 _)⟩
 obtain ⟨PS,sq,lp,epr,hw⟩:=bL3 (k:=kn) (ss:=ss) he hld hkd l4 hm (fun p pa pb t a b z=>cw ⟨p,pa,pb,t,a,b,z⟩);rw [<- epr] at k;clear epr hld cr ci cw hm hkd;have ep:e.p=e.p:=rfl;have nW:∀ w:Str,w∈(["idle","throw","plain","either"]:List Str)->¬ e.rule ss=w:=fun w hw' z=>by
  rcases hw with ⟨q,_⟩ | ⟨q,_⟩ <;> rw [q] at z <;> subst z <;> revert hw' <;> decide +kernel
 generalize e.rule ss=W at hw nW ⊢;refine ⟨_,rfl,rfl,_,rfl,bC (by rw [decide_eq_true_eq];exact fun z=>nW "idle" (by decide +kernel) (by injection z)) ?_⟩;refine ⟨_,rfl,bM,fun t ht=>?_⟩;have s1:=aB ht (.tup [.str "throw",.str "plain"]);refine ⟨t,[.str "throw",.str "plain"],rfl,.inr (aX.of aE),rfl,by decide,_,rfl,?_⟩;generalize aW H t (.tup [.str "throw",.str "plain"])=H1 at s1 ⊢;have ei:lC (V.str W) [.str "throw",.str "plain"]=decide (W∈(["throw","plain"]:List Str)):=cJ _ ["throw","plain"];refine bC (fun z=>?_) ?_
 ·have z:=of_decide_eq_true (ei.symm.trans z);simp only [List.mem_cons,List.not_mem_nil,or_false] at z;rcases z with z | z
  ·exact nW "throw" (by decide +kernel) z
  ·exact nW "plain" (by decide +kernel) z
 refine ⟨_,rfl,rfl,_,rfl,bC (by rw [decide_eq_true_eq];exact fun z=>nW "either" (by decide +kernel) (by injection z)) ?_⟩;refine ⟨fun σ G=>∃ (l':Addr) (us':List V),σ=[some (.str W),some (.ref e.p),some (.ref l'),some (.int kn),none,none,none]/\aZ H G/\G l'=some (.lst us')/\dP (dE K G) us' PS,?_,?_⟩
 ·refine ⟨_,rfl,rfl,_,rfl,?_⟩;rcases hw with ⟨rfl,rfl⟩ | ⟨rfl,n,r,n1,n3,k1,hep,rfl⟩
  ·exact bC (by rw [decide_eq_true_eq];decide +kernel) ⟨l,us,rfl,s1,s1 _ _ hl,tw.mono fun _ _ z=>z.s s1⟩
  ·refine bO (decide_eq_true rfl) ?_;refine ⟨_,rfl,_,rfl,e.p,_,_,.int n,rfl,rfl,aX.of (s1 _ _ hep),fW (j:=1) rfl,l,n,us,rfl,rfl,s1 _ _ hl,by omega,by omega,Nat.le_of_lt (bD ?_),fun q hq=>?_⟩
   ·have:us.length=1:=by omega
    rw [this];omega
   ·exact ⟨q,_,rfl,s1.trans (aB hq _),aE,aD2 (tw.mono fun _ _ z=>z.s (s1.trans (aB hq _))) n.toNat⟩
 clear ht s1 tw hl tl hw nW ei;rintro σ G ⟨l',us',rfl,sG,gl,tw⟩;have ul:=tw.length;refine ⟨bM,fun a0 ha0=>⟨bM,fun b0 hb0=>⟨bM,fun c0 hc0=>?_⟩⟩⟩;have s2:=(aB ha0 (.tup [.int 1,.int 1])).trans ((aB hb0 (.tup [.int 0,.int 1])).trans (aB hc0 (.tup [.ref a0,.ref b0])));have h20:=((aB hb0 (.tup [.int 0,.int 1])).trans (aB hc0 (.tup [.ref a0,.ref b0]))) a0 _ (aE (H:=G) (o:= .tup [.int 1,.int 1]));have h21:=(aB hc0 (.tup [.ref a0,.ref b0])) b0 _ (aE (o:= .tup [.int 0,.int 1]));refine ⟨c0,_,rfl,aX.of aE,rfl,_,_,rfl,_,_,rfl,rfl,?_⟩;generalize aW (aW (aW G a0 (.tup [.int 1,.int 1])) b0 (.tup [.int 0,.int 1])) c0 (.tup [.ref a0,.ref b0])=G2 at s2 h20 h21 ⊢;have gl2:=s2 _ _ gl;replace tw:=tw.mono fun _ _ (z:dE K G _ _)=>z.s s2
 have sG2:=sG.trans s2;clear s2 sG gl;refine ⟨_,rfl,l',rfl,⟨_,bN.of gl2⟩,eU (K:=K) (a:=l') (xs:=us') (fun i σ G=>∃ (f g:Addr) (v:Option V),σ=[some (.str W),some (.ref e.p),some (.ref l'),some (.int kn),some (.ref f),some (.ref g),v]/\aZ G2 G/\bU K G f (fB (PS.take i)).1/\bU K G g (fB (PS.take i)).2)
  ⟨a0,b0,_,rfl,aZ.refl _,bU.of h20,bU.of h21⟩ (by rintro i σ G _ ⟨_,_,_,_,z,_⟩;exact bN.of (z _ _ gl2)) ?_ ?_⟩
 ·rintro D' i v σ G hv ⟨f,g,v3,rfl,s1,hf,hg⟩;obtain ⟨P0,hP,a,x,y,rfl,ha,hx,hy⟩:=iN tw hv;have bp:=sq.1 P0 (List.mem_of_getElem? hP);have bi:=sq.2 i;refine ⟨_,rfl,_,rfl,a,_,_,_,rfl,rfl,aX.ts s1 ha,rfl,f,x,_,_,rfl,hf,hx.s s1,bi.1,bp.1,fun r1 hr1'=>?_⟩;have s2:=aB hr1' (.tup [.int (fJ (fB (PS.take i)).1 P0.1).1,.int (fJ (fB (PS.take i)).1 P0.1).2]);have h2:=aE (H:=G) (a:=r1) (o:= .tup [.int (fJ (fB (PS.take i)).1 P0.1).1,.int (fJ (fB (PS.take i)).1 P0.1).2]);generalize aW G r1 (.tup [.int (fJ (fB (PS.take i)).1 P0.1).1,.int (fJ (fB (PS.take i)).1 P0.1).2])=G3 at s2 h2 ⊢;refine ⟨_,rfl,_,rfl,a,_,_,_,rfl,rfl,aX.ts (s1.trans s2) ha,rfl,g,y,_,_,rfl,hg.s s2,hy.s (s1.trans s2),bi.2,bp.2,fun r2 hr2'=>?_⟩;rw [bF hP,lY];exact ⟨r1,r2,_,rfl,s1.trans (s2.trans (aB hr2' _)),(bU.ofU h2).s (aB hr2' _),bU.ofU aE⟩
 ·rintro σ G ⟨f,g,v3,rfl,s1,hf,hg⟩;rw [ul,List.take_length] at hf hg;refine ⟨_,rfl,_,rfl,bM,fun t ht=>?_⟩;exact k _ (.ref t) (sG2.trans (s1.trans (aB ht _))) ⟨t,f,g,rfl,aX.of aE,hf.s (aB ht _),hg.s (aB ht _)⟩
theorem cA0:aS ["_law_part","_law_names_here"] ["_law_part","_law_names_here"] (aG aO2):=by refine ⟨rfl,rfl,rfl,?_,rfl,?_,?_⟩<;>decide +kernel
theorem bP3 {f:Addr}{fd:FuncData}(F:dO K "_law_rule" "_law_rule" aO2 f fd)
  (C_LId:Cl P w K mg base 1 ["_law_row_here","_law_names_here"] spLId "_law_idle")
  (m_isinstance:mg "isinstance"=none) (m_tuple:mg "tuple"=none) (m_int:mg "int"=none) (m_len:mg "len"=none) :
  bQ P w K mg base dS (3) f fd ["_law_part","_law_names_here"] spRule:=by
 refine F.ok cA0 (fun vs H Q E h=>?_) (fun cdv A outer s H vs Q E hr h=>?_)
 ·obtain ⟨e,np,ss,rfl,_⟩:=h;rfl
 obtain ⟨e,np,ss,rfl,he,hn,k⟩:=h;have hr1:eF 1 _:=hr.mono (by decide);refine ⟨_,(aF (bT (PW.pt (aD5 (aV cR (bV cG (by rfl) m_len PySem.boot_len (aA (pv 0) aC)) aD (bB _)) (uP (gE (bV jV (by rfl) m_isinstance PyProof.Rows.boot_isinstance (aA (bI aI (pv 0) aD) (aA (uA (v:= .ty "tuple") (by rfl) m_tuple PyProof.Rows.boot_tuple rfl) aC))))))) (aH (aM aJ)) bA)
  (aF (bT (aV cH (bI aI (pv 0) aD) (aO (aA aJ (aA aJ aC))) rfl) (aH (aM (bI bZ (bS (aA aJ (aA aJ aC))) (bY fU (by rfl) m_int PyProof.Rows.boot_int (aA (dX cR (bI aI (pv 0) aD) aJ (bB _)) aC))))) bA)
  (aF (bT (gE (bR C_LId hr (aA (pv 0) (aA (pv 1) aC)))) (aH (aM aJ)) bA)
  (aH (aM (bI bZ (bS (aA aJ (aA aJ aC))) (bY fU (by rfl) m_int PyProof.Rows.boot_int (aA (dX cH (bI aI (pv 0) aD) (aO (aA aJ (aA aJ aC))) rfl) aC)))))))),?_⟩
 cases e with
 | rows p rs =>
  obtain ⟨hp,hR⟩:=he;refine ⟨_,rfl,p,_,rfl,.inr (aX.of hp),rfl,_,rfl,?_⟩
  cases rs with
  | nil=>exact bO (decide_eq_true rfl) (bO rfl (k _ (aZ.refl _)))
  | cons r rs =>
   refine bC (fun z=>?_) ?_
   ·have z:=of_decide_eq_true z;rw [bW,List.length_cons] at z;injection z with z
    omega
   ·exact ⟨_,rfl,p,_,_,_,rfl,rfl,aX.of hp,jG,_,_,_,true,rfl,.tup (eT.at hR.1),rfl,_,rfl,bO rfl (k _ (aZ.refl _))⟩
 | row r =>
  have hr1:=eT.at he;refine ⟨_,rfl,r.p,_,rfl,.inr (aX.of hr1),rfl,_,rfl,bC (fun z=>?_) ?_⟩
  ·have z:=of_decide_eq_true z;rw [List.length_cons] at z;injection z with z
   omega
  refine ⟨_,rfl,r.p,_,_,.str r.w,rfl,rfl,aX.of hr1,jG,_,_,_,false,rfl,.str _,rfl,_,rfl,bC (by decide) ?_⟩;refine ⟨_,rfl,r.p,_,_,.str r.w,rfl,rfl,aX.of hr1,jG,bM,fun t ht=>?_⟩;have s1:=aB ht (.tup [.str "when",.str "times"]);refine ⟨t,[.str "when",.str "times"],rfl,.inr (aX.of aE),rfl,by decide,_,rfl,?_⟩;generalize aW H t (.tup [.str "when",.str "times"])=H1 at s1 ⊢;have ei:lC (V.str r.w) [.str "when",.str "times"]=decide (r.w∈(["when","times"]:List Str)):=cJ _ ["when","times"]
  by_cases cw:r.w∈(["when","times"]:List Str)
  ·refine bO (ei.trans (decide_eq_true cw)) ?_;refine ⟨bM,fun l hl=>?_⟩;obtain ⟨H2,e0,s2,h2⟩:=gJ hl (.lst [.str "again",.str "either"]);rw [e0];clear e0;have s02:=s1.trans s2;refine ⟨_,rfl,r.p,_,_,.str r.w,rfl,rfl,aX.of (s02 _ _ hr1),jG,rfl,.inr ⟨_,rfl,?_⟩⟩
   cases r with
   | when p pa pb tt a b=>exact ⟨l,_,_,.str "either",rfl,rfl,bN.of h2,bV7 (decide_eq_true rfl),k _ s02⟩
   | times p pb n b=>exact ⟨l,_,_,.str "again",rfl,rfl,bN.of h2,cD2 (by rw [decide_eq_true_eq];exact nTW),k _ s02⟩
   | thr p w x d=>exact absurd cw (fun z=>by
     have n:=pC he.2;simp only [List.mem_cons,List.not_mem_nil,or_false] at z;rcases z with z | z
     ·exact n.1 (congrArg V.str z)
     ·exact n.2 (congrArg V.str z))
   | lt p x tt=>exact absurd cw (by show ¬ ("let": Str)∈_;decide +kernel)
   | tell p tt=>exact absurd cw (by show ¬ ("tell": Str)∈_;decide +kernel)
  ·refine bC (fun z=>cw (of_decide_eq_true (ei.symm.trans z))) ?_;refine ⟨_,rfl,_,rfl,r,np,ss,rfl,eT.ts (.of s1) r he,s1 _ _ hn,fun H2 s2=>⟨_,rfl,?_⟩⟩;have s02:=s1.trans s2
   by_cases ci:kZ ss r=true
   ·refine bO ci ?_;have e:(Pt.row r).rule ss="idle":=by
     cases r with
     | thr p w x d=>have:x∉ss:=(fun z=>by simp [kZ,Rw.sets,z] at ci);simp only [Pt.rule,if_neg this]
     | lt p x tt=>have:x∉ss:=(fun z=>by simp [kZ,Rw.sets,z] at ci);simp only [Pt.rule,if_neg this]
     | tell p tt=>simp [kZ,Rw.sets] at ci
     | when p pa pb tt a b=>exact absurd (by show ("when": Str)∈_;decide +kernel) cw
     | times p pb n b=>exact absurd (by show ("times": Str)∈_;decide +kernel) cw
    rw [e] at k;exact k _ s02
   ·refine bC ci ?_;refine ⟨bM,fun l hl=>?_⟩;obtain ⟨H3,e0,s3,h3⟩:=gJ hl (.lst [.str "throw",.str "plain"]);rw [e0];clear e0;have s03:=s02.trans s3;refine ⟨_,rfl,r.p,_,_,.str r.w,rfl,rfl,aX.of (s03 _ _ hr1),jG,bM,fun t4 ht4=>?_⟩;have s4:=aB ht4 (.tup [.str "let",.str "tell"]);refine ⟨t4,[.str "let",.str "tell"],rfl,.inr (aX.of aE),rfl,by decide,.inr ⟨_,rfl,?_⟩⟩;generalize aW H3 t4 (.tup [.str "let",.str "tell"])=H4 at s4 ⊢;have ei2:lC (V.str r.w) [.str "let",.str "tell"]=decide (r.w∈(["let","tell"]:List Str)):=cJ _ ["let","tell"]
    cases r with
    | thr p w x d =>
     have xi:x∈ss:=by simpa [kZ,Rw.sets] using ci
     have nw:¬ w∈(["let","tell"]:List Str):=by
      have e:=he.2.wd;rw [e]
      cases d.T with
      | lad _ _ _ _=>show ¬ ("ladder": Str)∈_;decide +kernel
      | fla _ _ _=>show ¬ ("flat": Str)∈_;decide +kernel
      | cho _ _ _ _=>show ¬ ("choose": Str)∈_;decide +kernel
      | fst _ _ _ _ _ _ _=>show ¬ ("first": Str)∈_;decide +kernel
     have e:(Pt.row (.thr p w x d)).rule ss="throw":=by simp only [Pt.rule,if_pos xi]
     rw [e] at k;exact ⟨l,_,_,.str "throw",rfl,rfl,bN.of (s4 _ _ h3),cD2 (fun z=>nw (of_decide_eq_true (ei2.symm.trans z))),k _ (s03.trans s4)⟩
    | lt p x tt =>
     have xi:x∈ss:=by simpa [kZ,Rw.sets] using ci
     have e:(Pt.row (.lt p x tt)).rule ss="plain":=by simp only [Pt.rule,if_pos xi]
     rw [e] at k;exact ⟨l,_,_,.str "plain",rfl,rfl,bN.of (s4 _ _ h3),bV7 (ei2.trans (decide_eq_true (by show ("let": Str)∈_;decide +kernel))),k _ (s03.trans s4)⟩
    | tell p tt =>
     exact ⟨l,_,_,.str "plain",rfl,rfl,bN.of (s4 _ _ h3),bV7 (ei2.trans (decide_eq_true (by show ("tell": Str)∈_;decide +kernel))),k _ (s03.trans s4)⟩
    | when p pa pb tt a b=>exact absurd (by show ("when": Str)∈_;decide +kernel) cw
    | times p pb n b=>exact absurd (by show ("times": Str)∈_;decide +kernel) cw
theorem cD4:aS ["_law_part"] ["_law_part"] (aG aM5):=by refine ⟨rfl,rfl,rfl,?_,rfl,?_,?_⟩<;>decide +kernel
theorem bN5 {f:Addr}{fd:FuncData}(F:dO K "_law_inner" "_law_inner" aM5 f fd)
  (m_isinstance:mg "isinstance"=none) (m_tuple:mg "tuple"=none) (m_list:mg "list"=none) (m_int:mg "int"=none) (m_len:mg "len"=none) :
  bQ P w K mg base dS (1) f fd ["_law_part"] spInn:=by
 refine F.ok cD4 (fun vs H Q E h=>?_) (fun cdv A outer s H vs Q E hr h=>?_)
 ·obtain ⟨e,rfl,_⟩:=h;rfl
 obtain ⟨e,rfl,he,l4,k⟩:=h;refine ⟨_,(aF (bT (PW.pt (aD5 (aV cR (bV cG (by rfl) m_len PySem.boot_len (aA (pv 0) aC)) aD (bB _)) (uP (gE (bV jV (by rfl) m_isinstance PyProof.Rows.boot_isinstance (aA (bI aI (pv 0) aD) (aA (uA (v:= .ty "tuple") (by rfl) m_tuple PyProof.Rows.boot_tuple rfl) aC))))))) (aH (aM (bY jJ (by rfl) m_list PyProof.Rows.boot_list (aA (pv 0) aC)))) bA)
  (aH (aM (aL aW1 (bY jJ (by rfl) m_list PyProof.Rows.boot_list (aA (eZ tM (pv 0) (fL aD) gQ) aC)) (bY fU (by rfl) m_int PyProof.Rows.boot_int (aA (dX cH (bI aI (pv 0) aD) (aO (aA aJ (aA aJ aC))) rfl) aC)))))),?_⟩
 cases e with
 | rows p rs =>
  obtain ⟨hp,hR⟩:=he;have fin:∀ l,H l=none->Q (.ref l) (aW H l (.lst (cI rs))):=fun l hl=>k l _ (aB hl _) hl (by rw [aE];show _=some (HO.lst (gL (rs.map Pt.row)));rw [aE0])
  refine ⟨_,rfl,p,_,rfl,.inr (aX.of hp),rfl,_,rfl,?_⟩
  cases rs with
  | nil=>exact bO (decide_eq_true rfl) (bO rfl ⟨_,rfl,p,_,rfl,.inr (aX.of hp),fin⟩)
  | cons r rs =>
   refine bC (fun z=>?_) ?_
   ·have z:=of_decide_eq_true z;rw [bW,List.length_cons] at z;injection z with z
    omega
   ·exact ⟨_,rfl,p,_,_,_,rfl,rfl,aX.of hp,jG,_,_,_,true,rfl,.tup (eT.at hR.1),rfl,_,rfl,bO rfl ⟨_,rfl,p,_,rfl,.inr (aX.of hp),fin⟩⟩
 | row r =>
  have hr1:=eT.at he;refine ⟨_,rfl,r.p,_,rfl,.inr (aX.of hr1),rfl,_,rfl,bC (fun z=>?_) ?_⟩
  ·have z:=of_decide_eq_true z;rw [List.length_cons] at z;injection z with z
   omega
  refine ⟨_,rfl,r.p,_,_,.str r.w,rfl,rfl,aX.of hr1,jG,_,_,_,false,rfl,.str _,rfl,_,rfl,bC (by decide) ?_⟩;refine ⟨_,rfl,2,rfl,r.p,_,rfl,hr1,fun r2 H2 s2 h2=>⟨r2,_,rfl,.inr (aX.of h2),fun l hl=>?_⟩⟩;have n2:=s2.free hl;obtain ⟨H3,e0,s3,h3⟩:=gJ hl (.lst (gH (.str r.w :: r.rest) (some 2) none));rw [e0];clear e0;have s03:=s2.trans s3;refine ⟨_,rfl,r.p,_,_,.str r.w,rfl,rfl,aX.of (s03 _ _ hr1),jG,bM,fun t ht=>?_⟩;have s4:=aB ht (.tup [.str "when",.str "times"]);refine ⟨t,[.str "when",.str "times"],rfl,.inr (aX.of aE),rfl,by decide,.inr ⟨_,rfl,?_⟩⟩;generalize aW H3 t (.tup [.str "when",.str "times"])=H4 at s4 ⊢;have ei:lC (V.str r.w) [.str "when",.str "times"]=decide (r.w∈(["when","times"]:List Str)):=cJ _ ["when","times"];have s04:=s03.trans s4;have h4:=s4 _ _ h3;have big:∀ xs:List V,xs.length<=2->(if true=true then (1:Int) else 0).toNat * 0+xs.length * 1<=sizeLine:=fun xs h=>Nat.le_of_lt (bD (by omega))
  have yes:∀ xs:List V,gH (.str r.w :: r.rest) (some 2) none=xs->xs=gL (Pt.row r).kids->xs.length<=2->r.w∈(["when","times"]:List Str)->rRep (.ref l) (.int (if lC (V.str r.w) [.str "when",.str "times"]=true then 1 else 0)) H4 Q:=fun xs e1 e2 l2 c=>by
   rw [if_pos (ei.trans (decide_eq_true c))];rw [e1] at h4;refine ⟨l,1,xs,rfl,rfl,h4,by decide,by decide,Nat.le_of_lt (bD (by show xs.length * 1<=1000;omega)),fun q hq=>k q _ (s04.trans (aB hq _)) (s04.free hq) ?_⟩;rw [aE];show some (HO.lst (List.replicate 1 xs).flatten)=_;rw [show (List.replicate 1 xs).flatten=xs by simp,e2]
  have nay:(Pt.row r).kids=[]->¬ r.w∈(["when","times"]:List Str)->rRep (.ref l) (.int (if lC (V.str r.w) [.str "when",.str "times"]=true then 1 else 0)) H4 Q:=fun e1 c=>by
   rw [if_neg (fun z=>c (of_decide_eq_true (ei.symm.trans z)))];refine ⟨l,0,_,rfl,rfl,h4,by decide,by decide,by show _ * 0<=_;omega,fun q hq=>k q _ (s04.trans (aB hq _)) (s04.free hq) ?_⟩;rw [aE,e1];rfl
  cases r with
  | when p pa pb tt a b=>exact yes [.ref pa,.ref pb] rfl rfl (by show 2<=2;decide) (by show ("when": Str)∈_;decide +kernel)
  | times p pb n b=>exact yes [.ref pb] rfl rfl (by show 1<=2;decide) (by show ("times": Str)∈_;decide +kernel)
  | thr p w x d=>exact nay rfl (fun z=>by
     have n:=pC he.2;simp only [List.mem_cons,List.not_mem_nil,or_false] at z;rcases z with z | z
     ·exact n.1 (congrArg V.str z)
     ·exact n.2 (congrArg V.str z))
  | lt p x tt=>exact nay rfl (by show ¬ ("let": Str)∈_;decide +kernel)
  | tell p tt=>exact nay rfl (by show ¬ ("tell": Str)∈_;decide +kernel)
theorem lU:aS ["_law_part","_law_place","_law_names_here","_law_kind","_law_found","_law_some","_law_inner_here","_law_k","_law_rule_here","_law_factor","_law_rest"] ["_law_part","_law_place","_law_names_here","_law_kind"] (aG aG2):=by refine ⟨rfl,rfl,rfl,?_,rfl,?_,?_⟩<;>decide +kernel
theorem bT9 (n:Nat) {f:Addr}{fd:FuncData}(F:dO K "_law_lines" "_law_lines" aG2 f fd)
  (C_LIn:Cl P w K mg base 1 ["_law_part"] spInn "_law_inner")
  (C_LRu:Cl P w K mg base 3 ["_law_part","_law_names_here"] spRule "_law_rule")
  (C_LJn:Cl P w K mg base 6 ["_law_rule_here","_law_row_here","_law_some","_law_kind"] (bJ4 K) "_law_joined")
  (C_LLs:Cl P w K mg base (n+7) ["_law_part","_law_place","_law_names_here","_law_kind"] (aE1 K n) "_law_lines")
  (m_range:mg "range"=none) (m_len:mg "len"=none) :
  bQ P w K mg base dS (n+7+1) f fd ["_law_part","_law_place","_law_names_here","_law_kind"] (aE1 K (n+1)):=by
 refine F.ok lU (fun vs H Q E h=>?_) (fun cdv A outer s H vs Q E hr h=>?_)
 ·obtain ⟨e,q,np,ss,kn,kd,pl,rfl,_⟩:=h;rfl
 obtain ⟨e,q,np,ss,kn,kd,pl,rfl,he,hdp,hpl,hld,hkd,hkn,hsz,hq,hn,k⟩:=h;refine ⟨_,(aF (aK (i:=4) lU.nd rfl (Or.inl rfl) (bS aC))
  (aF (aK (i:=5) lU.nd rfl (Or.inl rfl) (bS aC))
  (aF (aK (i:=6) lU.nd rfl (Or.inl rfl) (bR C_LIn hr (aA (pv 0) aC)))
  (aF (dN PassesOwn.never rfl (cY (by rfl) m_range (aA (bV cG (by rfl) m_len PySem.boot_len (aA (pv 6) aC)) aC)) (aU (i:=7) lU.nd rfl (Or.inl rfl))
  (aF (aK (i:=4) lU.nd rfl (Or.inl rfl) (aL gF (pv 4) (bR C_LLs hr (aA (bI bZ (pv 6) (pv 7)) (aA (aB9 (aL zS (pv 1) (aO (aA (pv 7) aC)))) (aA (pv 2) (aA (pv 3) aC)))))))
  (aH (dR (fY PySem.F.plainAttrs_list PySem.F.slot_list_append PySem.F.type_list_append eP (pv 5) (aA (eZ tM (bI bZ (pv 4) (sJ mN aD)) (fL aD) gQ) aC))))))
  (aF (aK (i:=8) lU.nd rfl (Or.inl rfl) (bR C_LRu hr (aA (pv 0) (aA (pv 2) aC))))
  (aF (fP (bR C_LJn hr (aA (pv 8) (aA (pv 0) (aA (pv 5) (aA (pv 3) aC))))) (fE rfl (bJ (aU (i:=9) lU.nd rfl (Or.inl rfl)) (bJ (aU (i:=10) lU.nd rfl (Or.inl rfl)) dY))))
  (aH (aM (aL gF (pv 4) (bS (aA (aO (aA (pv 1) (aA (pv 8) (aA (pv 9) (aA (pv 10) aC))))) aC))))))))))),?_⟩
 have ks:=bC5 e;have kl:e.kids.length<=4000:=by
  have:e.kids.length<=pZ e.kids:=aF0 e.kids;omega
 refine ⟨Nat.zero_le _,fun lf hlf=>?_⟩;obtain ⟨H1,e0,s1,h1⟩:=gJ hlf (.lst []);rw [e0];clear e0;refine ⟨Nat.zero_le _,fun ls hls=>?_⟩;have s2:=aB hls (.lst []);have h2:aW H1 ls (.lst []) ls=some (.lst []):=aE;have nls:H ls=none:=s1.free hls;have nfs:lf≠ls:=aR h1 hls;have f2:=s2 _ _ h1;generalize aW H1 ls (.lst [])=H2 at s2 h2 f2 ⊢;have s12:=s1.trans s2;refine ⟨_,rfl,e,rfl,he.ts (.of s12),kl,fun ri H3 s3 n3 h3=>?_⟩;have s13:=s12.trans s3;have nri:ri≠ls:=(aR h2 n3).symm;refine ⟨_,rfl,ri,_,rfl,.inl (bN.of h3),_,rfl,by omega,by rw [eR];omega,jD (n:=(gL e.kids).length) (fun i σ G=>∃ (lf':Addr) (fs vs:List V) (v7:Option V),σ=[some (.ref e.p),some (.ref q),some (.ref np),some (.int kn),some (.ref lf'),some (.ref ls),some (.ref ri),v7,none,none,none]/\aZ H G/\G ri=some (.lst (gL e.kids))/\G ls=some (.lst vs)/\G lf'=some (.lst fs)/\lf'≠ls/\fs.length<=pZ (e.kids.take i)/\dP (dE K G) vs ((e.kids.map (Pt.pr ss kn)).take i))
  ⟨lf,[],[],_,rfl,s13,h3,s3 _ _ h2,s3 _ _ f2,nfs,Nat.zero_le _,trivial⟩ ?_ ?_⟩
 ·rintro i σ G hi ⟨lf',fs,vs,v7,rfl,sG,gri,gls,glf,nfl,lfs,tv⟩;rw [eR] at hi;obtain ⟨c,hc⟩:∃ c,e.kids[i]?=some c:=⟨_,List.getElem?_eq_getElem hi⟩
  have mc:=List.mem_of_getElem? hc;have hcH:=he.kids c mc;obtain ⟨cd,cl,ca⟩:=bL6 hkd hld c mc;have szt:=aP8 e.kids (i+1);rw [bF hc,nU] at szt;have sz1:pZ [c]=c.sz:=by simp [pZ]
  rw [sz1] at szt
  cases n with
  | zero=>exact absurd hdp (by omega)
  | succ n =>
  refine ⟨_,rfl,_,rfl,_,rfl,ri,_,_,.ref c.p,rfl,rfl,bN.of gri,by rw [Int.zero_add];exact fW (by unfold gL;rw [List.getElem?_map,hc];rfl),?_⟩;refine ⟨fun v G'=>∃ tq,v= .ref tq/\aZ G G'/\G' tq=some (.tup ((pl++[(i:Int)]).map V.int)),?_,?_⟩
  ·refine ⟨_,rfl,_,rfl,iT,fun t ht=>?_⟩;rw [Int.zero_add];have s5:=aB ht (.tup [.int (i:Int)]);have h5:aW G t (.tup [.int (i:Int)]) t=some (.tup [.int (i:Int)]):=aE;refine ⟨q,t,_,_,rfl,rfl,aX.of (s5 _ _ (sG _ _ hq)),aX.of h5,(fun z=>by cases z),by rw [List.length_map];exact Nat.le_of_lt (bD (by rw [List.length_singleton];omega)),fun z=>?_,fun z t2 ht2=>?_⟩
   ·exact ⟨t,rfl,s5,by rw [List.map_append,z,List.nil_append];exact h5⟩
   ·exact ⟨t2,rfl,s5.trans (aB ht2 _),by rw [List.map_append];exact aE⟩
  rintro v G5 ⟨tq,rfl,s5,h5⟩;have s05:=sG.trans s5;refine ⟨_,rfl,_,rfl,c,tq,np,ss,kn,kd,pl++[(i:Int)],rfl,hcH.ts (.of s05),by omega,by rw [List.length_append,List.length_singleton];omega,cl,ca,hkn,by omega,h5,s05 _ _ hn,fun G6 l6 us6 z6 s6 h6 lz ⟨za,zb,zf,zg,hz,hzf,hzg⟩=>?_⟩;have s56:=s5.trans s6;refine ⟨lf',l6,_,_,rfl,rfl,s56 _ _ glf,h6,Nat.le_of_lt (eY (by rw [List.length_append,List.length_singleton];omega)),fun l7 hl7=>?_⟩;have s7:=aB hl7 (.lst (fs++(us6++[.ref z6])));have h7:aW G6 l7 (.lst (fs++(us6++[.ref z6]))) l7=some (.lst ((fs++us6)++[.ref z6])):=by rw [aE,List.append_assoc]
  have n7:l7≠ls:=(aR (s56 _ _ gls) hl7).symm;generalize aW G6 l7 (.lst (fs++(us6++[.ref z6])))=G7 at s7 h7 ⊢;have s57:=s56.trans s7;have gls7:=s57 _ _ gls;refine ⟨_,rfl,.inl ⟨rfl,_,bN.of gls7⟩,_,rfl,1,rfl,l7,_,_,.ref z6,rfl,rfl,bN.of h7,oE,2,rfl,z6,_,rfl,s7 _ _ hz,fun r8 G8 s8 h8=>?_⟩;replace h8:G8 r8=some (.tup [.ref zf,.ref zg]):=h8;have s58:=s57.trans s8;have gls8:=s58 _ _ gls;have lv:=tv.length;rw [List.length_take,List.length_map] at lv;refine ⟨ls,vs,.ref r8,rfl,rfl,gls8,eY (by omega),l7,fs++(us6++[.ref z6]),vs++[.ref r8],_,rfl,cX (sG.trans s58) nls,by rw [aQ nri];exact s58 _ _ gri,aE,?_,n7,?_,?_⟩
  ·rw [aQ n7, <- List.append_assoc];exact s8 _ _ h7
  ·rw [bF hc,nU,sz1,List.length_append,List.length_append,List.length_singleton];omega
  ·rw [bF (show (e.kids.map (Pt.pr ss kn))[i]?=some (Pt.pr ss kn c) by rw [List.getElem?_map,hc];rfl)];refine dP.append (tv.mono fun _ _ z=>(z.s s58).updL gls8) ⟨?_,trivial⟩;exact dE.updL gls8 ⟨r8,zf,zg,rfl,aX.of h8,hzf.s (s7.trans s8),hzg.s (s7.trans s8)⟩
 rintro σ G ⟨lf',fs,vs,v7,rfl,sG,gri,gls,glf,nfl,lfs,tv⟩;rw [eR,List.take_length] at lfs;rw [eR, <- List.length_map (f:=Pt.pr ss kn) (as:=e.kids),List.take_length] at tv;refine ⟨_,rfl,_,rfl,e,np,ss,rfl,he.ts (.of sG),sG _ _ hn,fun G2 s2'=>?_⟩;refine ⟨_,rfl,_,rfl,_,rfl,_,rfl,e,ls,vs,ss,kn,kd,rfl,he.ts (.of (sG.trans s2')),hld,bI2 hkd,hkn,kl,s2' _ _ gls,tv.mono fun _ _ z=>z.s s2',fun G4 v4 s4 hv4=>?_⟩;obtain ⟨a4,x4,y4,rfl,ha4,hx4,hy4⟩:=hv4;refine ⟨a4,_,rfl,ha4,rfl,_,_,rfl,_,_,rfl,rfl,?_⟩;have s24:=s2'.trans s4;refine ⟨_,rfl,_,rfl,_,rfl,_,rfl,_,rfl,by show 4<=sizeLine;decide,fun t5 ht5=>⟨iT,fun l6 hl6=>?_⟩⟩;have s5:=aB ht5 (.tup [.ref q,.str (e.rule ss),.ref x4,.ref y4]);have h5:aW G4 t5 (.tup [.ref q,.str (e.rule ss),.ref x4,.ref y4]) t5=some (.tup [.ref q,.str (e.rule ss),.ref x4,.ref y4]):=aE;generalize aW G4 t5 (.tup [.ref q,.str (e.rule ss),.ref x4,.ref y4])=G5 at s5 h5 hl6 ⊢;have s6:=aB hl6 (.lst [.ref t5])
 refine ⟨lf',l6,fs,_,rfl,rfl,(s24.trans (s5.trans s6)) _ _ glf,aE,Nat.le_of_lt (eY (by rw [List.length_singleton];omega)),fun l7 hl7=>?_⟩;have s67:=s6.trans (aB hl7 (.lst (fs++[.ref t5])));exact k _ l7 fs t5 (sG.trans (s24.trans (s5.trans s67))) aE (by omega) ⟨_,_,x4,y4,s67 _ _ h5,hx4.s (s5.trans s67),hy4.s (s5.trans s67)⟩
theorem cB7:aS ["_law_found","_law_due"] ["_law_found","_law_due"] (aG aM6):=by refine ⟨rfl,rfl,rfl,?_,rfl,?_,?_⟩<;>decide +kernel
theorem bV5 {f:Addr}{fd:FuncData}(F:dO K "_law_same" "_law_same" aM6 f fd)
  (m_repr:mg "repr"=none) :
  bQ P w K mg base dS (2) f fd ["_law_found","_law_due"] (aZ2 K):=by
 refine F.ok cB7 (fun vs H Q E h=>?_) (fun cdv A outer s H vs Q E hr h=>?_)
 ·obtain ⟨v,u,P0,rfl,_⟩:=h;rfl
 obtain ⟨v,u,P0,rfl,hv,hv2,b1,b2,k⟩:=h;have hr1:eF 1 _:=hr.mono (by decide);refine ⟨_,(aH (aM (dX cR (bV (pQ hr1) (by rfl) m_repr PyProof.Rows.boot_repr (aA (pv 0) aC)) (bV (pQ hr1) (by rfl) m_repr PyProof.Rows.boot_repr (aA (pv 1) aC)) (bB _)))),?_⟩;obtain ⟨a,x,y,rfl,ha,hx,hy⟩:=hv;obtain ⟨a',x',y',rfl,ha',hx',hy'⟩:=hv2;obtain ⟨w1,w2,w3,w4⟩:=aX1 b1 b2;exact ⟨_,rfl,uU P0,a,rfl,aA9 ha hx hy,w1,w2,w3,w4,_,rfl,uU P0,a',rfl,aA9 ha' hx' hy',w1,w2,w3,w4,rfl,by rw [decide_eq_true rfl];exact k⟩
theorem qG:aS ["_law_program_here","_law_names_here","_law_greatest","_law_kind","_law_row_here","_law_due"] ["_law_program_here"] (aG aG3):=by refine ⟨rfl,rfl,rfl,?_,rfl,?_,?_⟩<;>decide +kernel
theorem bU8 {f:Addr}{fd:FuncData}(F:dO K "_law_right" "_law_right" aG3 f fd)
  {cT:Addr}(m_THROWS:mg "THROWS"=some (.ref cT)) (hT:∀ H,aX K H cT (dZ.map V.str)) {cF cF0 cF1:Addr}(m_FREE:mg "FREE"=some (.ref cF)) (hF:∀ H,aX K H cF [.ref cF0,.ref cF1]/\bU K H cF0 (1,1)/\bU K H cF1 (0,1))
  (C_LNd:Cl P w K mg base 9 ["_law_program_here"] spLNd "_law_needed")
  (C_LSm:Cl P w K mg base 2 ["_law_found","_law_due"] (aZ2 K) "_law_same")
  (C_Lst:Cl P w K mg base 5 ["_law_rows_here"] (xA 4) "_law_listed")
  (C_GPr:Cl P w K mg base 11 ["program"] (bK9 K) "greatest_price")
  (C_LGr:Cl P w K mg base 2 ["_law_one","_law_other"] (bA0 K) "_law_greater")
  (C_LLs:Cl P w K mg base 15 ["_law_part","_law_place","_law_names_here","_law_kind"] (aE1 K 8) "_law_lines")
  (C_Pri:Cl P w K mg base 10 ["program","kind"] (aX2 K) "price")
  (C_POR:Cl P w K mg base 7 ["row","kind"] (aS6 K) "price_of_row")
  (C_LRP:Cl P w K mg base 5 ["_law_row_here","_law_kind"] (aV0 K) "_law_row_price")
  (m_range:mg "range"=none) (m_len:mg "len"=none) :
  bQ P w K mg base dS (16) f fd ["_law_program_here"] spRgt:=by
 refine F.ok qG (fun vs H Q E h=>?_) (fun cdv A outer s H vs Q E hr h=>?_)
 ·obtain ⟨p,xs,rs,rfl,_⟩:=h;rfl
 obtain ⟨p,xs,rs,rfl,P0,k⟩:=h;have hr1:eF 1 _:=hr.mono (by decide);refine ⟨_,(aF (aK (i:=1) qG.nd rfl (Or.inl rfl) (bR C_LNd hr (aA (pv 0) aC)))
  (aF (aK (i:=2) qG.nd rfl (Or.inl rfl) (aO (aA (aO (aA aD (aA aD aC))) (aA (aO (aA aD (aA aD aC))) aC))))
  (aF (dN PassesOwn.never rfl (cY (by rfl) m_range (aA (bV cG (by rfl) m_len PySem.boot_len (aA (bI aI (pv 0) aD) aC)) aC)) (aU (i:=3) qG.nd rfl (Or.inl rfl))
  (aF (dN PassesOwn.never rfl (dC (bR C_Lst hr (aA (bI aI (pv 0) aD) aC))) (aU (i:=4) qG.nd rfl (Or.inl rfl))
  (aH (bT (aV gP (bI aI (pv 4) aD) (aO (aA aJ (aA aJ aC))) rfl) (aH (bT (oO (gE (bR C_LSm hr (aA (bR C_POR hr (aA (pv 4) (aA (pv 3) aC))) (aA (bR C_LRP hr (aA (pv 4) (aA (pv 3) aC))) aC))))) sU bA)) bA)))
  (aF (aK (i:=5) qG.nd rfl (Or.inl rfl) (eZ tM (bI bZ (bR C_LLs hr (aA (bI aI (pv 0) aD) (aA (aO aC) (aA (pv 1) (aA (pv 3) aC))))) (sJ mN aD)) (fL aD) gQ))
  (aF (bT (oO (gE (bR C_LSm hr (aA (bR C_Pri hr (aA (pv 0) (aA (pv 3) aC))) (aA (pv 5) aC))))) sU bA)
  (aH (aK (i:=2) qG.nd rfl (Or.inl rfl) (aO (aA (bR C_LGr hr (aA (bI aI (pv 2) aD) (aA (bI aI (pv 5) aD) aC))) (aA (bR C_LGr hr (aA (bI aI (pv 2) aD) (aA (bI aI (pv 5) aD) aC))) aC)))))))))
  (aH (aM (bR C_LSm hr (aA (bR C_GPr hr (aA (pv 0) aC)) (aA (pv 2) aC)))))))),?_⟩
 have c0:=P0.cnt;have hdp:=P0.dp;obtain ⟨v0,pr,hp,hpr⟩:=P0.ex;obtain ⟨n,N0⟩:=P0.knn;obtain ⟨pk,ks,w0,hp',hk,eks,n1,n3,hkd⟩:=id N0;refine ⟨_,rfl,p,xs,rs,rfl,P0,fun r1 ss H1 s1 h1 nds=>?_⟩;refine ⟨bM,fun a0 ha0=>⟨bM,fun b0 hb0=>⟨bM,fun c0' hc0=>?_⟩⟩⟩;have s2:=(aB ha0 (.tup [.int 1,.int 1])).trans ((aB hb0 (.tup [.int 0,.int 1])).trans (aB hc0 (.tup [.ref a0,.ref b0])));have h20:=((aB hb0 (.tup [.int 0,.int 1])).trans (aB hc0 (.tup [.ref a0,.ref b0]))) a0 _ (aE (H:=H1) (o:= .tup [.int 1,.int 1]));have h21:=(aB hc0 (.tup [.ref a0,.ref b0])) b0 _ (aE (o:= .tup [.int 0,.int 1]));have h22:aW (aW (aW H1 a0 (.tup [.int 1,.int 1])) b0 (.tup [.int 0,.int 1])) c0' (.tup [.ref a0,.ref b0]) c0'=some (.tup [.ref a0,.ref b0]):=aE;generalize aW (aW (aW H1 a0 (.tup [.int 1,.int 1])) b0 (.tup [.int 0,.int 1])) c0' (.tup [.ref a0,.ref b0])=H2 at s2 h20 h21 h22 ⊢;have hv2:dE K H2 (.ref c0') (oV ss rs 0):=⟨c0',a0,b0,rfl,aX.of h22,bU.of h20,bU.of h21⟩
 have s02:=s1.trans s2;have R2:=P0.rows;refine ⟨_,rfl,p,_,_,.ref pk,rfl,rfl,aX.of (s02 _ _ hp'),rfl,pk,_,rfl,.inr (aX.of (s02 _ _ hk)),_,rfl,by omega,by rw [List.length_map];omega,jD (n:=(ks.map V.str).length) (fun i σ G=>∃ (v2:V) (v3 v4 v5:Option V),σ=[some (.ref p),some (.ref r1),some v2,v3,v4,v5]/\aZ H1 G/\dE K G v2 (oV ss rs i))
  ⟨.ref c0',_,_,_,rfl,s2,hv2⟩ ?_ ?_⟩
 ·rintro i σ G hi ⟨v2,v3,v4,v5,rfl,sG,hv2⟩;rw [List.length_map] at hi;rw [Int.zero_add];have s0G:=s1.trans sG;have PG:=P0.ts (.of s0G);have NG:=N0.ts (.of s0G);have ab:=bK0 (ss:=ss) P0.rows P0.ld i;have pb:=nN (hZ ss i P0.rows).2 P0.ld;refine ⟨_,rfl,p,_,_,.ref pr,rfl,rfl,aX.of (s0G _ _ hp),rfl,pr,rs,rfl,s0G _ _ hpr,PG.rows,by omega,Nat.lt_succ_of_le hdp,fun r3 G3 s3 n3' h3=>?_⟩;refine ⟨r3,rfl,⟨_,bN.of h3⟩,eU (K:=K) (a:=r3) (xs:=cI (bK rs)) (fun j σ G'=>∃ (v4:Option V),σ=[some (.ref p),some (.ref r1),some v2,some (.int (i:Int)),v4,v5]/\aZ G3 G')
   ⟨_,rfl,aZ.refl _⟩ (by rintro j σ G' _ ⟨_,_,z⟩;exact bN.of (z _ _ h3)) ?_ ?_⟩
  ·rintro D' j v σ G4 hv ⟨v4,rfl,s4⟩;obtain ⟨r,rfl,hr0⟩:=jH hv;have mr:=List.mem_of_getElem? hr0;have hr1:=eT.ts (.of (s3.trans s4)) r ((bL.flat rs PG.rows).mem r mr);have kdr:=hkd r mr;have kdc:∀ p w x d,r= .thr p w x d->i < d.kd:=fun p w x d e=>by
    rw [e] at kdr;have t:(d.kd:Int)=n:=kdr;omega
   refine ⟨_,rfl,r.p,_,_,.str r.w,rfl,rfl,aX.of (eT.at hr1),jG,bM,fun t5 ht5=>?_⟩;have s5:=aB ht5 (.tup [.str "when",.str "times"]);refine ⟨t5,[.str "when",.str "times"],rfl,.inr (aX.of aE),rfl,by decide,_,rfl,?_⟩;generalize aW G4 t5 (.tup [.str "when",.str "times"])=G5 at s5 ⊢;have ei:lC (V.str r.w) [.str "when",.str "times"]=decide (r.w∈(["when","times"]:List Str)):=cJ _ ["when","times"]
   by_cases cw:r.w∈(["when","times"]:List Str)
   ·refine bC (fun z=>?_) ⟨_,rfl,s4.trans s5⟩;have z:(!lC (V.str r.w) [.str "when",.str "times"])=true:=z;rw [ei,decide_eq_true cw] at z;exact Bool.noConfusion z
   ·refine bO (show (!lC (V.str r.w) [.str "when",.str "times"])=true by rw [ei,decide_eq_false cw];rfl) ?_;have rb:=cD8 (k:=i) hr1;refine ⟨_,rfl,_,rfl,r,i,rfl,eT.ts (.of s5) r hr1,kdc,fun G6 v6 s6 h6=>?_⟩;refine ⟨_,rfl,_,rfl,r,i,rfl,eT.ts (.of (s5.trans s6)) r hr1,cw,kdc,fun G7 v7 s7 h7=>?_⟩;exact ⟨v6,v7,qU i r,rfl,h6.s s7,h7,rb.1,rb.2,_,rfl,bC (by decide) ⟨_,rfl,s4.trans (s5.trans (s6.trans s7))⟩⟩
  rintro σ G4 ⟨v4,rfl,s4⟩;have s14:=sG.trans (s3.trans s4);have s04:=s1.trans s14;have hv24:=hv2.s (s3.trans s4);refine ⟨_,rfl,p,_,_,.ref pr,rfl,rfl,aX.of (s04 _ _ hp),rfl,Nat.zero_le _,fun t5 ht5=>?_⟩;obtain ⟨G5,e0,s5,h5⟩:=gJ ht5 (.tup []);rw [e0];clear e0;have s05:=s04.trans s5;refine ⟨_,rfl,_,rfl,Pt.rows pr rs,t5,r1,ss,i,n,[],rfl,⟨s05 _ _ hpr,bL.ts (.of s05) rs P0.rows⟩,(show 2 * fF rs+1 < 8 by omega),(show 2 * fF rs+1+0<=20 by omega),P0.ld,hkd,by omega,(show 3 * cU rs+1<=4000 by omega),h5,(s14.trans s5) _ _ h1,fun G6 l6 us6 z6 s6 h6 _ ⟨za,zb,zf,zg,hz,hzf,hzg⟩=>?_⟩;refine ⟨1,rfl,l6,_,_,.ref z6,rfl,rfl,bN.of h6,oE,2,rfl,z6,_,rfl,hz,fun r7 G7 s7 h7=>?_⟩;replace h7:G7 r7=some (.tup [.ref zf,.ref zg]):=h7;replace hzf:bU K G6 zf (gD ss i rs).1:=hzf;replace hzg:bU K G6 zg (gD ss i rs).2:=hzg;have s57:=s5.trans (s6.trans s7);have s07:=s04.trans s57;have due:dE K G7 (.ref r7) (gD ss i rs):=⟨r7,zf,zg,rfl,aX.of h7,hzf.s s7,hzg.s s7⟩
  refine ⟨_,rfl,_,rfl,p,xs,rs,i,n,rfl,P0.ts (.of s07),N0.ts (.of s07),by omega,fun G8 ss' v8 s8 nds' h8=>?_⟩;rw [nds'.eq nds] at h8;refine ⟨_,rfl,v8,.ref r7,gD ss i rs,rfl,h8,due.s s8,pb.1,pb.2,_,rfl,bC (by decide) ?_⟩;obtain ⟨a2,x2,y2,rfl,ha2,hx2,hy2⟩:=hv24.s (s57.trans s8);obtain ⟨_,zf,zg,e7,h78,hzf8,hzg8⟩:=due.s s8;injection e7 with e7
  subst e7;refine ⟨_,rfl,a2,_,_,.ref x2,rfl,rfl,ha2,rfl,_,rfl,r7,_,_,.ref zf,rfl,rfl,h78,rfl,x2,zf,_,_,rfl,hx2,hzf8,ab.1,pb.1,fun G9 r9 s9 h9=>?_⟩;refine ⟨_,rfl,a2,_,_,.ref y2,rfl,rfl,aX.ts s9 ha2,rfl,_,rfl,r7,_,_,.ref zg,rfl,rfl,aX.ts s9 h78,rfl,y2,zg,_,_,rfl,hy2.s s9,hzg8.s s9,ab.2,pb.2,fun G10 r10 s10 h10=>⟨bM,fun t11 ht11=>?_⟩⟩;refine ⟨.ref t11,_,_,_,rfl,s14.trans (s57.trans (s8.trans (s9.trans (s10.trans (aB ht11 _))))),?_⟩;rw [aU7];exact ⟨t11,r9,r10,rfl,aX.of aE,h9.s (s10.trans (aB ht11 _)),h10.s (aB ht11 _)⟩
 ·rintro σ G ⟨v2,v3,v4,v5,rfl,sG,hv2⟩;rw [List.length_map,eks] at hv2;have s0G:=s1.trans sG;have ab:=bK0 (ss:=ss) P0.rows P0.ld n;refine ⟨_,rfl,p,xs,rs,n,rfl,P0.ts (.of s0G),N0.ts (.of s0G),fun G2 ss' v s2' nds' h=>?_⟩;rw [nds'.eq nds, <- bQ0 P0.rows n1] at h;exact ⟨_,rfl,v,v2,oV ss rs n,rfl,h,hv2.s s2',ab.1,ab.2,k _ (s0G.trans s2')⟩
theorem xF:aS ["_law_script","_law_deal_here","_law_one","_law_other","_law_chain_here"] ["_law_script"] (aG tR):=by refine ⟨rfl,rfl,rfl,?_,rfl,?_,?_⟩<;>decide +kernel
theorem bR5 {f:Addr}{fd:FuncData}(F:dO K "law" "law" tR f fd)
  (C_Deal:Cl P w K mg base 1 ["_law_script","_law_base"] (aT2 K) "_law_deal")
  (C_Prg:Cl P w K mg base 18 ["_law_deal_here","_law_kinds","_law_throws","_law_wide"] spPrg "_law_program")
  (C_Chn:Cl P w K mg base 4 ["_law_deal_here"] spChn "_law_chain")
  (C_LRt:Cl P w K mg base 16 ["_law_program_here"] spRgt "_law_right")
   :
  bQ P w K mg base dS (19) f fd ["_law_script"] (aA3 K):=by
 refine F.ok xF (fun vs H Q E h=>?_) (fun cdv A outer s H vs Q E hr h=>?_)
 ·obtain ⟨a,ns,rfl,_⟩:=h;rfl
 obtain ⟨a,ns,rfl,hS,hlen,k⟩:=h;refine ⟨_,(aF (aK (i:=1) xF.nd rfl (Or.inl rfl) (bR C_Deal hr (aA (pv 0) (aA aD aC))))
  (aF (aK (i:=2) xF.nd rfl (Or.inl rfl) (bR C_Prg hr (aA (pv 1) (aA aD (aA aD (aA aD aC))))))
  (aF (aK (i:=3) xF.nd rfl (Or.inl rfl) (bR C_Prg hr (aA (pv 1) (aA aD (aA aD (aA aD aC))))))
  (aF (aK (i:=4) xF.nd rfl (Or.inl rfl) (bR C_Chn hr (aA (pv 1) aC)))
  (aH (aM (lA (bR C_LRt hr (aA (pv 2) aC)) (lA (bR C_LRt hr (aA (pv 3) aC)) (lA (bR C_LRt hr (aA (pv 4) aC)) (mS (bR C_LRt hr (aA (pv 2) aC)))))))))))),?_⟩
 refine ⟨_,rfl,a,ns,0,rfl,hS,hlen,by decide,by decide,fun d l H1 nd nl D1 s1=>?_⟩;refine ⟨_,rfl,d,l,rfl,D1,fun p2 x2 r2 H2 D2 o2 P2=>?_⟩;refine ⟨_,rfl,d,l,rfl,D2,fun p3 x3 r3 H3 D3 o3 P3=>?_⟩;refine ⟨_,rfl,d,l,rfl,D3,fun p4 x4 r4 H4 D4 o4 P4=>?_⟩;have P3':=P3.ts (TS.out D3 o4);have P2':=P2.ts ((TS.out D2 o3).trans (TS.out D3 o4));refine ⟨_,rfl,p2,x2,r2,rfl,P2',fun G1 g1=>⟨_,rfl,bO rfl ?_⟩⟩;refine ⟨_,rfl,p3,x3,r3,rfl,P3'.ts (.of g1),fun G2 g2=>⟨_,rfl,bO rfl ?_⟩⟩;refine ⟨_,rfl,p4,x4,r4,rfl,P4.ts (.of (g1.trans g2)),fun G3 g3=>⟨_,rfl,bO rfl ?_⟩⟩;exact ⟨_,rfl,p2,x2,r2,rfl,P2'.ts (.of (g1.trans (g2.trans g3))),fun G4 g4=>k _⟩
end
end Mine
namespace L2
open PySem PySem.Spec PyProof.Rows
theorem cD {α: Type}{n:Nat}{us:List α}(h:us.length=n+1):∃ u r,us=u :: r/\r.length=n:=by
 cases us with
 | nil=>cases h
 | cons u r=>exact ⟨u,r,rfl,Nat.succ.inj h⟩
section
variable {K:W.Frag}{x qual:Str}{st:Stmt}{f:Addr}{fd:FuncData}{p1 p2 p3 p4 p5:Str}
theorem dO.b1 (F:dO K x qual st f fd) (h:∀ (kV doc pm:Value) (an:Option Addr) (cdv ct u1:Value),bindArgs (W.fnOf x qual (aP st) (aN st) (aG st) .none kV doc pm an cdv ct) ⟨[u1],[]⟩=pure [(p1,u1)]):jP K fd [p1] []:=by
 refine F.binds fun kV doc pm an cdv ct us h0=>?_
 obtain ⟨u1,r1,rfl,h1⟩:=cD (n:=0) h0
 cases List.length_eq_zero_iff.mp h1
 exact h kV doc pm an cdv ct u1
theorem dO.b2 (F:dO K x qual st f fd) (h:∀ (kV doc pm:Value) (an:Option Addr) (cdv ct u1 u2:Value),bindArgs (W.fnOf x qual (aP st) (aN st) (aG st) .none kV doc pm an cdv ct) ⟨[u1,u2],[]⟩=pure [(p1,u1),(p2,u2)]):jP K fd [p1,p2] []:=by
 refine F.binds fun kV doc pm an cdv ct us h0=>?_
 obtain ⟨u1,r1,rfl,h1⟩:=cD (n:=1) h0;obtain ⟨u2,r2,rfl,h2⟩:=cD (n:=0) h1
 cases List.length_eq_zero_iff.mp h2
 exact h kV doc pm an cdv ct u1 u2
theorem dO.b3 (F:dO K x qual st f fd) (h:∀ (kV doc pm:Value) (an:Option Addr) (cdv ct u1 u2 u3:Value),bindArgs (W.fnOf x qual (aP st) (aN st) (aG st) .none kV doc pm an cdv ct) ⟨[u1,u2,u3],[]⟩=pure [(p1,u1),(p2,u2),(p3,u3)]):jP K fd [p1,p2,p3] []:=by
 refine F.binds fun kV doc pm an cdv ct us h0=>?_
 obtain ⟨u1,r1,rfl,h1⟩:=cD (n:=2) h0;obtain ⟨u2,r2,rfl,h2⟩:=cD (n:=1) h1;obtain ⟨u3,r3,rfl,h3⟩:=cD (n:=0) h2
 cases List.length_eq_zero_iff.mp h3
 exact h kV doc pm an cdv ct u1 u2 u3
theorem dO.b4 (F:dO K x qual st f fd) (h:∀ (kV doc pm:Value) (an:Option Addr) (cdv ct u1 u2 u3 u4:Value),bindArgs (W.fnOf x qual (aP st) (aN st) (aG st) .none kV doc pm an cdv ct) ⟨[u1,u2,u3,u4],[]⟩=pure [(p1,u1),(p2,u2),(p3,u3),(p4,u4)]):jP K fd [p1,p2,p3,p4] []:=by
 refine F.binds fun kV doc pm an cdv ct us h0=>?_
 obtain ⟨u1,r1,rfl,h1⟩:=cD (n:=3) h0;obtain ⟨u2,r2,rfl,h2⟩:=cD (n:=2) h1;obtain ⟨u3,r3,rfl,h3⟩:=cD (n:=1) h2;obtain ⟨u4,r4,rfl,h4⟩:=cD (n:=0) h3
 cases List.length_eq_zero_iff.mp h4
 exact h kV doc pm an cdv ct u1 u2 u3 u4
theorem dO.b5 (F:dO K x qual st f fd) (h:∀ (kV doc pm:Value) (an:Option Addr) (cdv ct u1 u2 u3 u4 u5:Value),bindArgs (W.fnOf x qual (aP st) (aN st) (aG st) .none kV doc pm an cdv ct) ⟨[u1,u2,u3,u4,u5],[]⟩=pure [(p1,u1),(p2,u2),(p3,u3),(p4,u4),(p5,u5)]):jP K fd [p1,p2,p3,p4,p5] []:=by
 refine F.binds fun kV doc pm an cdv ct us h0=>?_
 obtain ⟨u1,r1,rfl,h1⟩:=cD (n:=4) h0;obtain ⟨u2,r2,rfl,h2⟩:=cD (n:=3) h1;obtain ⟨u3,r3,rfl,h3⟩:=cD (n:=2) h2;obtain ⟨u4,r4,rfl,h4⟩:=cD (n:=1) h3;obtain ⟨u5,r5,rfl,h5⟩:=cD (n:=0) h4
 cases List.length_eq_zero_iff.mp h5
 exact h kV doc pm an cdv ct u1 u2 u3 u4 u5
end
section
variable {K:W.Frag}{x qual:Str}{st:Stmt}{f:Addr}{fd:FuncData}{p1 p2 p3 p4 p5 p6:Str}
theorem dO.b6 (F:dO K x qual st f fd) (h:∀ (kV doc pm:Value) (an:Option Addr) (cdv ct u1 u2 u3 u4 u5 u6:Value),bindArgs (W.fnOf x qual (aP st) (aN st) (aG st) .none kV doc pm an cdv ct) ⟨[u1,u2,u3,u4,u5,u6],[]⟩=pure [(p1,u1),(p2,u2),(p3,u3),(p4,u4),(p5,u5),(p6,u6)]):jP K fd [p1,p2,p3,p4,p5,p6] []:=by
 refine F.binds fun kV doc pm an cdv ct us h0=>?_
 obtain ⟨u1,r1,rfl,h1⟩:=cD (n:=5) h0;obtain ⟨u2,r2,rfl,h2⟩:=cD (n:=4) h1;obtain ⟨u3,r3,rfl,h3⟩:=cD (n:=3) h2;obtain ⟨u4,r4,rfl,h4⟩:=cD (n:=2) h3;obtain ⟨u5,r5,rfl,h5⟩:=cD (n:=1) h4;obtain ⟨u6,r6,rfl,h6⟩:=cD (n:=0) h5
 cases List.length_eq_zero_iff.mp h6
 exact h kV doc pm an cdv ct u1 u2 u3 u4 u5 u6
end
end L2
namespace Mine
open PySem L2
theorem sM {P:Program}{w:World}{K:W.Frag}{mg:Str->Option Value}{base:Heap}{CX:CXT}{k:Nat}{f:Addr}{fd:FuncData}{ps:List Str}:bQ P w K mg base CX k f fd ps (fun _ _ _ _=>False) :=
 ⟨fun _ _ _ _ h=>h.elim,fun _ _ _ _ _ _ _ _ _ _ _ _ _ h=>h.elim⟩
theorem all_mk {l:W.OpenLaw}{w:World}{K:W.Frag}{h:Heap}{mg:Str->Option Value}{fa f1 f2 f3 f4 f5 f6 f7 f8 f9 f10 f11 f12 f13 f14 f15 f16 f17 f18 f19 f20 f21 f22 f23 f24 f25 f26 f27 f28 f29 f30 f31 f32 f33 f34 f35 f36 f37 f38 f39 f40 f41 f42 f43 f44 f45 f46 f47 f48 f49 f50 f51 f52 f53 f54 f55 f56 f57 f58 f59 f60 f61 f62 f63 f64 f65 f66 f67 f68:Addr}(X:K.In h) (G:h.Ns mainGlobals mg) (hfa:mg "law"=some (.ref fa))
  {od1 an1 od2 an2 od3 an3 od4 an4 od5 an5 od6 an6 od7 an7 od8 an8 od9 an9 od10 an10 od11 an11 od12 an12 od13 an13 od14 an14 od15 an15 od16 an16 od17 an17 od18 an18 od19 an19 od20 an20 od21 an21 od22 an22 od23 an23 od24 an24 od25 an25 od26 an26 od27 an27 od28 an28 od29 an29 od30 an30 od31 an31 od32 an32 od33 an33 od34 an34 od35 an35 od36 an36 od37 an37 od38 an38 od39 an39 od40 an40 od41 an41 od42 an42 od43 an43 od44 an44 od45 an45 od46 an46 od47 an47 od48 an48 od49 an49 od50 an50 od51 an51 od52 an52 od53 an53 od54 an54 od55 an55 od56 an56 od57 an57 od58 an58 od59 an59 od60 an60 od61 an61 od62 an62 od63 an63 od64 an64 od65 an65 od66 an66 od67 an67 od68 an68:Option Addr}{sl1 sl2 sl3 sl4 sl5 sl6 sl7 sl8 sl9 sl10 sl11 sl12 sl13 sl14 sl15 sl16 sl17 sl18 sl19 sl20 sl21 sl22 sl23 sl24 sl25 sl26 sl27 sl28 sl29 sl30 sl31 sl32 sl33 sl34 sl35 sl36 sl37 sl38 sl39 sl40 sl41 sl42 sl43 sl44 sl45 sl46 sl47 sl48 sl49 sl50 sl51 sl52 sl53 sl54 sl55 sl56 sl57 sl58 sl59 sl60 sl61 sl62 sl63 sl64 sl65 sl66 sl67 sl68:Array (Option Value)}{oc1 kV1 dc1 pm1 cd1 ct1 oc2 kV2 dc2 pm2 cd2 ct2 oc3 kV3 dc3 pm3 cd3 ct3 oc4 kV4 dc4 pm4 cd4 ct4 oc5 kV5 dc5 pm5 cd5 ct5 oc6 kV6 dc6 pm6 cd6 ct6 oc7 kV7 dc7 pm7 cd7 ct7 oc8 kV8 dc8 pm8 cd8 ct8 oc9 kV9 dc9 pm9 cd9 ct9 oc10 kV10 dc10 pm10 cd10 ct10 oc11 kV11 dc11 pm11 cd11 ct11 oc12 kV12 dc12 pm12 cd12 ct12 oc13 kV13 dc13 pm13 cd13 ct13 oc14 kV14 dc14 pm14 cd14 ct14 oc15 kV15 dc15 pm15 cd15 ct15 oc16 kV16 dc16 pm16 cd16 ct16 oc17 kV17 dc17 pm17 cd17 ct17 oc18 kV18 dc18 pm18 cd18 ct18 oc19 kV19 dc19 pm19 cd19 ct19 oc20 kV20 dc20 pm20 cd20 ct20 oc21 kV21 dc21 pm21 cd21 ct21 oc22 kV22 dc22 pm22 cd22 ct22 oc23 kV23 dc23 pm23 cd23 ct23 oc24 kV24 dc24 pm24 cd24 ct24 oc25 kV25 dc25 pm25 cd25 ct25 oc26 kV26 dc26 pm26 cd26 ct26 oc27 kV27 dc27 pm27 cd27 ct27 oc28 kV28 dc28 pm28 cd28 ct28 oc29 kV29 dc29 pm29 cd29 ct29 oc30 kV30 dc30 pm30 cd30 ct30 oc31 kV31 dc31 pm31 cd31 ct31 oc32 kV32 dc32 pm32 cd32 ct32 oc33 kV33 dc33 pm33 cd33 ct33 oc34 kV34 dc34 pm34 cd34 ct34 oc35 kV35 dc35 pm35 cd35 ct35 oc36 kV36 dc36 pm36 cd36 ct36 oc37 kV37 dc37 pm37 cd37 ct37 oc38 kV38 dc38 pm38 cd38 ct38 oc39 kV39 dc39 pm39 cd39 ct39 oc40 kV40 dc40 pm40 cd40 ct40 oc41 kV41 dc41 pm41 cd41 ct41 oc42 kV42 dc42 pm42 cd42 ct42 oc43 kV43 dc43 pm43 cd43 ct43 oc44 kV44 dc44 pm44 cd44 ct44 oc45 kV45 dc45 pm45 cd45 ct45 oc46 kV46 dc46 pm46 cd46 ct46 oc47 kV47 dc47 pm47 cd47 ct47 oc48 kV48 dc48 pm48 cd48 ct48 oc49 kV49 dc49 pm49 cd49 ct49 oc50 kV50 dc50 pm50 cd50 ct50 oc51 kV51 dc51 pm51 cd51 ct51 oc52 kV52 dc52 pm52 cd52 ct52 oc53 kV53 dc53 pm53 cd53 ct53 oc54 kV54 dc54 pm54 cd54 ct54 oc55 kV55 dc55 pm55 cd55 ct55 oc56 kV56 dc56 pm56 cd56 ct56 oc57 kV57 dc57 pm57 cd57 ct57 oc58 kV58 dc58 pm58 cd58 ct58 oc59 kV59 dc59 pm59 cd59 ct59 oc60 kV60 dc60 pm60 cd60 ct60 oc61 kV61 dc61 pm61 cd61 ct61 oc62 kV62 dc62 pm62 cd62 ct62 oc63 kV63 dc63 pm63 cd63 ct63 oc64 kV64 dc64 pm64 cd64 ct64 oc65 kV65 dc65 pm65 cd65 ct65 oc66 kV66 dc66 pm66 cd66 ct66 oc67 kV67 dc67 pm67 cd67 ct67 oc68 kV68 dc68 pm68 cd68 ct68:Value}
  {xcT xcF xcG xcH:Addr}{odT odF odG odH:Option Addr}{itsT itsF itsG itsH:Array Value}{nT nF nG nH:Nat}{slT slF slG slH:Array (Option Value)}
  (a1:W.nsIn K mainGlobals "has_one_sum"=some (some (.ref f1))) (l1:K.lookup f1=some ⟨oc1,od1,.func (W.fnOf "has_one_sum" "has_one_sum" (aP aN3) (aN aN3) (aG aN3) .none kV1 dc1 pm1 an1 cd1 ct1),sl1⟩) (c1:W.codeIn K cd1 "has_one_sum"=true) (k1:W.keepIn K (.ref f1)=true)
  (a2:W.nsIn K mainGlobals "place_of_sums"=some (some (.ref f2))) (l2:K.lookup f2=some ⟨oc2,od2,.func (W.fnOf "place_of_sums" "place_of_sums" (aP aM8) (aN aM8) (aG aM8) .none kV2 dc2 pm2 an2 cd2 ct2),sl2⟩) (c2:W.codeIn K cd2 "place_of_sums"=true) (k2:W.keepIn K (.ref f2)=true)
  (a3:W.nsIn K mainGlobals "sums_of"=some (some (.ref f3))) (l3:K.lookup f3=some ⟨oc3,od3,.func (W.fnOf "sums_of" "sums_of" (aP aP1) (aN aP1) (aG aP1) .none kV3 dc3 pm3 an3 cd3 ct3),sl3⟩) (c3:W.codeIn K cd3 "sums_of"=true) (k3:W.keepIn K (.ref f3)=true)
  (a4:W.nsIn K mainGlobals "parts_of"=some (some (.ref f4))) (l4:K.lookup f4=some ⟨oc4,od4,.func (W.fnOf "parts_of" "parts_of" (aP aO5) (aN aO5) (aG aO5) .none kV4 dc4 pm4 an4 cd4 ct4),sl4⟩) (c4:W.codeIn K cd4 "parts_of"=true) (k4:W.keepIn K (.ref f4)=true)
  (a5:W.nsIn K mainGlobals "names_in"=some (some (.ref f5))) (l5:K.lookup f5=some ⟨oc5,od5,.func (W.fnOf "names_in" "names_in" (aP aM9) (aN aM9) (aG aM9) .none kV5 dc5 pm5 an5 cd5 ct5),sl5⟩) (c5:W.codeIn K cd5 "names_in"=true) (k5:W.keepIn K (.ref f5)=true)
  (a6:W.nsIn K mainGlobals "sets_name"=some (some (.ref f6))) (l6:K.lookup f6=some ⟨oc6,od6,.func (W.fnOf "sets_name" "sets_name" (aP aL8) (aN aL8) (aG aL8) .none kV6 dc6 pm6 an6 cd6 ct6),sl6⟩) (c6:W.codeIn K cd6 "sets_name"=true) (k6:W.keepIn K (.ref f6)=true)
  (a7:W.nsIn K mainGlobals "names_asked"=some (some (.ref f7))) (l7:K.lookup f7=some ⟨oc7,od7,.func (W.fnOf "names_asked" "names_asked" (aP aM2) (aN aM2) (aG aM2) .none kV7 dc7 pm7 an7 cd7 ct7),sl7⟩) (c7:W.codeIn K cd7 "names_asked"=true) (k7:W.keepIn K (.ref f7)=true)
  (a8:W.nsIn K mainGlobals "as_steps"=some (some (.ref f8))) (l8:K.lookup f8=some ⟨oc8,od8,.func (W.fnOf "as_steps" "as_steps" (aP aI8) (aN aI8) (aG aI8) .none kV8 dc8 pm8 an8 cd8 ct8),sl8⟩) (c8:W.codeIn K cd8 "as_steps"=true) (k8:W.keepIn K (.ref f8)=true)
  (a9:W.nsIn K mainGlobals "inner_steps"=some (some (.ref f9))) (l9:K.lookup f9=some ⟨oc9,od9,.func (W.fnOf "inner_steps" "inner_steps" (aP aI4) (aN aI4) (aG aI4) .none kV9 dc9 pm9 an9 cd9 ct9),sl9⟩) (c9:W.codeIn K cd9 "inner_steps"=true) (k9:W.keepIn K (.ref f9)=true)
  (a10:W.nsIn K mainGlobals "steps_of"=some (some (.ref f10))) (l10:K.lookup f10=some ⟨oc10,od10,.func (W.fnOf "steps_of" "steps_of" (aP aI0) (aN aI0) (aG aI0) .none kV10 dc10 pm10 an10 cd10 ct10),sl10⟩) (c10:W.codeIn K cd10 "steps_of"=true) (k10:W.keepIn K (.ref f10)=true)
  (a11:W.nsIn K mainGlobals "is_row"=some (some (.ref f11))) (l11:K.lookup f11=some ⟨oc11,od11,.func (W.fnOf "is_row" "is_row" (aP aH5) (aN aH5) (aG aH5) .none kV11 dc11 pm11 an11 cd11 ct11),sl11⟩) (c11:W.codeIn K cd11 "is_row"=true) (k11:W.keepIn K (.ref f11)=true)
  (a12:W.nsIn K mainGlobals "parts_right_in"=some (some (.ref f12))) (l12:K.lookup f12=some ⟨oc12,od12,.func (W.fnOf "parts_right_in" "parts_right_in" (aP aF5) (aN aF5) (aG aF5) .none kV12 dc12 pm12 an12 cd12 ct12),sl12⟩) (c12:W.codeIn K cd12 "parts_right_in"=true) (k12:W.keepIn K (.ref f12)=true)
  (a13:W.nsIn K mainGlobals "places_right_in"=some (some (.ref f13))) (l13:K.lookup f13=some ⟨oc13,od13,.func (W.fnOf "places_right_in" "places_right_in" (aP aJ0) (aN aJ0) (aG aJ0) .none kV13 dc13 pm13 an13 cd13 ct13),sl13⟩) (c13:W.codeIn K cd13 "places_right_in"=true) (k13:W.keepIn K (.ref f13)=true)
  (a14:W.nsIn K mainGlobals "places_of"=some (some (.ref f14))) (l14:K.lookup f14=some ⟨oc14,od14,.func (W.fnOf "places_of" "places_of" (aP aG4) (aN aG4) (aG aG4) .none kV14 dc14 pm14 an14 cd14 ct14),sl14⟩) (c14:W.codeIn K cd14 "places_of"=true) (k14:W.keepIn K (.ref f14)=true)
  (a15:W.nsIn K mainGlobals "common_divisor"=some (some (.ref f15))) (l15:K.lookup f15=some ⟨oc15,od15,.func (W.fnOf "common_divisor" "common_divisor" (aP aO9) (aN aO9) (aG aO9) .none kV15 dc15 pm15 an15 cd15 ct15),sl15⟩) (c15:W.codeIn K cd15 "common_divisor"=true) (k15:W.keepIn K (.ref f15)=true)
  (a16:W.nsIn K mainGlobals "lowest"=some (some (.ref f16))) (l16:K.lookup f16=some ⟨oc16,od16,.func (W.fnOf "lowest" "lowest" (aP aP5) (aN aP5) (aG aP5) .none kV16 dc16 pm16 an16 cd16 ct16),sl16⟩) (c16:W.codeIn K cd16 "lowest"=true) (k16:W.keepIn K (.ref f16)=true)
  (a17:W.nsIn K mainGlobals "added"=some (some (.ref f17))) (l17:K.lookup f17=some ⟨oc17,od17,.func (W.fnOf "added" "added" (aP aL0) (aN aL0) (aG aL0) .none kV17 dc17 pm17 an17 cd17 ct17),sl17⟩) (c17:W.codeIn K cd17 "added"=true) (k17:W.keepIn K (.ref f17)=true)
  (a18:W.nsIn K mainGlobals "times"=some (some (.ref f18))) (l18:K.lookup f18=some ⟨oc18,od18,.func (W.fnOf "times" "times" (aP aK5) (aN aK5) (aG aK5) .none kV18 dc18 pm18 an18 cd18 ct18),sl18⟩) (c18:W.codeIn K cd18 "times"=true) (k18:W.keepIn K (.ref f18)=true)
  (a19:W.nsIn K mainGlobals "minus"=some (some (.ref f19))) (l19:K.lookup f19=some ⟨oc19,od19,.func (W.fnOf "minus" "minus" (aP mO) (aN mO) (aG mO) .none kV19 dc19 pm19 an19 cd19 ct19),sl19⟩) (c19:W.codeIn K cd19 "minus"=true) (k19:W.keepIn K (.ref f19)=true)
  (a20:W.nsIn K mainGlobals "power"=some (some (.ref f20))) (l20:K.lookup f20=some ⟨oc20,od20,.func (W.fnOf "power" "power" (aP aO3) (aN aO3) (aG aO3) .none kV20 dc20 pm20 an20 cd20 ct20),sl20⟩) (c20:W.codeIn K cd20 "power"=true) (k20:W.keepIn K (.ref f20)=true)
  (a21:W.nsIn K mainGlobals "less"=some (some (.ref f21))) (l21:K.lookup f21=some ⟨oc21,od21,.func (W.fnOf "less" "less" (aP aI6) (aN aI6) (aG aI6) .none kV21 dc21 pm21 an21 cd21 ct21),sl21⟩) (c21:W.codeIn K cd21 "less"=true) (k21:W.keepIn K (.ref f21)=true)
  (a22:W.nsIn K mainGlobals "rows_in"=some (some (.ref f22))) (l22:K.lookup f22=some ⟨oc22,od22,.func (W.fnOf "rows_in" "rows_in" (aP aH4) (aN aH4) (aG aH4) .none kV22 dc22 pm22 an22 cd22 ct22),sl22⟩) (c22:W.codeIn K cd22 "rows_in"=true) (k22:W.keepIn K (.ref f22)=true)
  (a23:W.nsIn K mainGlobals "names_behind"=some (some (.ref f23))) (l23:K.lookup f23=some ⟨oc23,od23,.func (W.fnOf "names_behind" "names_behind" (aP aO8) (aN aO8) (aG aO8) .none kV23 dc23 pm23 an23 cd23 ct23),sl23⟩) (c23:W.codeIn K cd23 "names_behind"=true) (k23:W.keepIn K (.ref f23)=true)
  (a24:W.nsIn K mainGlobals "needed"=some (some (.ref f24))) (l24:K.lookup f24=some ⟨oc24,od24,.func (W.fnOf "needed" "needed" (aP aN9) (aN aN9) (aG aN9) .none kV24 dc24 pm24 an24 cd24 ct24),sl24⟩) (c24:W.codeIn K cd24 "needed"=true) (k24:W.keepIn K (.ref f24)=true)
  (a25:W.nsIn K mainGlobals "is_idle"=some (some (.ref f25))) (l25:K.lookup f25=some ⟨oc25,od25,.func (W.fnOf "is_idle" "is_idle" (aP aK8) (aN aK8) (aG aK8) .none kV25 dc25 pm25 an25 cd25 ct25),sl25⟩) (c25:W.codeIn K cd25 "is_idle"=true) (k25:W.keepIn K (.ref f25)=true)
  (a26:W.nsIn K mainGlobals "far_tail"=some (some (.ref f26))) (l26:K.lookup f26=some ⟨oc26,od26,.func (W.fnOf "far_tail" "far_tail" (aP aJ5) (aN aJ5) (aG aJ5) .none kV26 dc26 pm26 an26 cd26 ct26),sl26⟩) (c26:W.codeIn K cd26 "far_tail"=true) (k26:W.keepIn K (.ref f26)=true)
  (a27:W.nsIn K mainGlobals "tail_of"=some (some (.ref f27))) (l27:K.lookup f27=some ⟨oc27,od27,.func (W.fnOf "tail_of" "tail_of" (aP sP) (aN sP) (aG sP) .none kV27 dc27 pm27 an27 cd27 ct27),sl27⟩) (c27:W.codeIn K cd27 "tail_of"=true) (k27:W.keepIn K (.ref f27)=true)
  (a28:W.nsIn K mainGlobals "turned_power"=some (some (.ref f28))) (l28:K.lookup f28=some ⟨oc28,od28,.func (W.fnOf "turned_power" "turned_power" (aP aK3) (aN aK3) (aG aK3) .none kV28 dc28 pm28 an28 cd28 ct28),sl28⟩) (c28:W.codeIn K cd28 "turned_power"=true) (k28:W.keepIn K (.ref f28)=true)
  (a29:W.nsIn K mainGlobals "price_of_throw"=some (some (.ref f29))) (l29:K.lookup f29=some ⟨oc29,od29,.func (W.fnOf "price_of_throw" "price_of_throw" (aP aP6) (aN aP6) (aG aP6) .none kV29 dc29 pm29 an29 cd29 ct29),sl29⟩) (c29:W.codeIn K cd29 "price_of_throw"=true) (k29:W.keepIn K (.ref f29)=true)
  (a30:W.nsIn K mainGlobals "price_of_row"=some (some (.ref f30))) (l30:K.lookup f30=some ⟨oc30,od30,.func (W.fnOf "price_of_row" "price_of_row" (aP aM1) (aN aM1) (aG aM1) .none kV30 dc30 pm30 an30 cd30 ct30),sl30⟩) (c30:W.codeIn K cd30 "price_of_row"=true) (k30:W.keepIn K (.ref f30)=true)
  (a31:W.nsIn K mainGlobals "price_behind"=some (some (.ref f31))) (l31:K.lookup f31=some ⟨oc31,od31,.func (W.fnOf "price_behind" "price_behind" (aP aO1) (aN aO1) (aG aO1) .none kV31 dc31 pm31 an31 cd31 ct31),sl31⟩) (c31:W.codeIn K cd31 "price_behind"=true) (k31:W.keepIn K (.ref f31)=true)
  (a32:W.nsIn K mainGlobals "greatest"=some (some (.ref f32))) (l32:K.lookup f32=some ⟨oc32,od32,.func (W.fnOf "greatest" "greatest" (aP aK4) (aN aK4) (aG aK4) .none kV32 dc32 pm32 an32 cd32 ct32),sl32⟩) (c32:W.codeIn K cd32 "greatest"=true) (k32:W.keepIn K (.ref f32)=true)
  (a33:W.nsIn K mainGlobals "greatest_of"=some (some (.ref f33))) (l33:K.lookup f33=some ⟨oc33,od33,.func (W.fnOf "greatest_of" "greatest_of" (aP aP4) (aN aP4) (aG aP4) .none kV33 dc33 pm33 an33 cd33 ct33),sl33⟩) (c33:W.codeIn K cd33 "greatest_of"=true) (k33:W.keepIn K (.ref f33)=true)
  (a34:W.nsIn K mainGlobals "price_made"=some (some (.ref f34))) (l34:K.lookup f34=some ⟨oc34,od34,.func (W.fnOf "price_made" "price_made" (aP aH6) (aN aH6) (aG aH6) .none kV34 dc34 pm34 an34 cd34 ct34),sl34⟩) (c34:W.codeIn K cd34 "price_made"=true) (k34:W.keepIn K (.ref f34)=true)
  (a35:W.nsIn K mainGlobals "prices_of"=some (some (.ref f35))) (l35:K.lookup f35=some ⟨oc35,od35,.func (W.fnOf "prices_of" "prices_of" (aP aH7) (aN aH7) (aG aH7) .none kV35 dc35 pm35 an35 cd35 ct35),sl35⟩) (c35:W.codeIn K cd35 "prices_of"=true) (k35:W.keepIn K (.ref f35)=true)
  (a36:W.nsIn K mainGlobals "price"=some (some (.ref f36))) (l36:K.lookup f36=some ⟨oc36,od36,.func (W.fnOf "price" "price" (aP aN7) (aN aN7) (aG aN7) .none kV36 dc36 pm36 an36 cd36 ct36),sl36⟩) (c36:W.codeIn K cd36 "price"=true) (k36:W.keepIn K (.ref f36)=true)
  (a37:W.nsIn K mainGlobals "greatest_price"=some (some (.ref f37))) (l37:K.lookup f37=some ⟨oc37,od37,.func (W.fnOf "greatest_price" "greatest_price" (aP aH1) (aN aH1) (aG aH1) .none kV37 dc37 pm37 an37 cd37 ct37),sl37⟩) (c37:W.codeIn K cd37 "greatest_price"=true) (k37:W.keepIn K (.ref f37)=true)
  (a38:W.nsIn K mainGlobals "_law_deal"=some (some (.ref f38))) (l38:K.lookup f38=some ⟨oc38,od38,.func (W.fnOf "_law_deal" "_law_deal" (aP sH) (aN sH) (aG sH) .none kV38 dc38 pm38 an38 cd38 ct38),sl38⟩) (c38:W.codeIn K cd38 "_law_deal"=true) (k38:W.keepIn K (.ref f38)=true)
  (a39:W.nsIn K mainGlobals "_law_draw"=some (some (.ref f39))) (l39:K.lookup f39=some ⟨oc39,od39,.func (W.fnOf "_law_draw" "_law_draw" (aP rZ) (aN rZ) (aG rZ) .none kV39 dc39 pm39 an39 cd39 ct39),sl39⟩) (c39:W.codeIn K cd39 "_law_draw"=true) (k39:W.keepIn K (.ref f39)=true)
  (a40:W.nsIn K mainGlobals "_law_names"=some (some (.ref f40))) (l40:K.lookup f40=some ⟨oc40,od40,.func (W.fnOf "_law_names" "_law_names" (aP aN0) (aN aN0) (aG aN0) .none kV40 dc40 pm40 an40 cd40 ct40),sl40⟩) (c40:W.codeIn K cd40 "_law_names"=true) (k40:W.keepIn K (.ref f40)=true)
  (a41:W.nsIn K mainGlobals "_law_steep"=some (some (.ref f41))) (l41:K.lookup f41=some ⟨oc41,od41,.func (W.fnOf "_law_steep" "_law_steep" (aP aG9) (aN aG9) (aG aG9) .none kV41 dc41 pm41 an41 cd41 ct41),sl41⟩) (c41:W.codeIn K cd41 "_law_steep"=true) (k41:W.keepIn K (.ref f41)=true)
  (a42:W.nsIn K mainGlobals "_law_sum"=some (some (.ref f42))) (l42:K.lookup f42=some ⟨oc42,od42,.func (W.fnOf "_law_sum" "_law_sum" (aP aN1) (aN aN1) (aG aN1) .none kV42 dc42 pm42 an42 cd42 ct42),sl42⟩) (c42:W.codeIn K cd42 "_law_sum"=true) (k42:W.keepIn K (.ref f42)=true)
  (a43:W.nsIn K mainGlobals "_law_throw"=some (some (.ref f43))) (l43:K.lookup f43=some ⟨oc43,od43,.func (W.fnOf "_law_throw" "_law_throw" (aP aO6) (aN aO6) (aG aO6) .none kV43 dc43 pm43 an43 cd43 ct43),sl43⟩) (c43:W.codeIn K cd43 "_law_throw"=true) (k43:W.keepIn K (.ref f43)=true)
  (a44:W.nsIn K mainGlobals "_law_term"=some (some (.ref f44))) (l44:K.lookup f44=some ⟨oc44,od44,.func (W.fnOf "_law_term" "_law_term" (aP aK2) (aN aK2) (aG aK2) .none kV44 dc44 pm44 an44 cd44 ct44),sl44⟩) (c44:W.codeIn K cd44 "_law_term"=true) (k44:W.keepIn K (.ref f44)=true)
  (a45:W.nsIn K mainGlobals "_law_row"=some (some (.ref f45))) (l45:K.lookup f45=some ⟨oc45,od45,.func (W.fnOf "_law_row" "_law_row" (aP aL9) (aN aL9) (aG aL9) .none kV45 dc45 pm45 an45 cd45 ct45),sl45⟩) (c45:W.codeIn K cd45 "_law_row"=true) (k45:W.keepIn K (.ref f45)=true)
  (a46:W.nsIn K mainGlobals "_law_rows"=some (some (.ref f46))) (l46:K.lookup f46=some ⟨oc46,od46,.func (W.fnOf "_law_rows" "_law_rows" (aP aK1) (aN aK1) (aG aK1) .none kV46 dc46 pm46 an46 cd46 ct46),sl46⟩) (c46:W.codeIn K cd46 "_law_rows"=true) (k46:W.keepIn K (.ref f46)=true)
  (a47:W.nsIn K mainGlobals "_law_program"=some (some (.ref f47))) (l47:K.lookup f47=some ⟨oc47,od47,.func (W.fnOf "_law_program" "_law_program" (aP aJ3) (aN aJ3) (aG aJ3) .none kV47 dc47 pm47 an47 cd47 ct47),sl47⟩) (c47:W.codeIn K cd47 "_law_program"=true) (k47:W.keepIn K (.ref f47)=true)
  (a48:W.nsIn K mainGlobals "_law_pow"=some (some (.ref f48))) (l48:K.lookup f48=some ⟨oc48,od48,.func (W.fnOf "_law_pow" "_law_pow" (aP aH9) (aN aH9) (aG aH9) .none kV48 dc48 pm48 an48 cd48 ct48),sl48⟩) (c48:W.codeIn K cd48 "_law_pow"=true) (k48:W.keepIn K (.ref f48)=true)
  (a49:W.nsIn K mainGlobals "_law_common"=some (some (.ref f49))) (l49:K.lookup f49=some ⟨oc49,od49,.func (W.fnOf "_law_common" "_law_common" (aP aL3) (aN aL3) (aG aL3) .none kV49 dc49 pm49 an49 cd49 ct49),sl49⟩) (c49:W.codeIn K cd49 "_law_common"=true) (k49:W.keepIn K (.ref f49)=true)
  (a50:W.nsIn K mainGlobals "_law_lowest"=some (some (.ref f50))) (l50:K.lookup f50=some ⟨oc50,od50,.func (W.fnOf "_law_lowest" "_law_lowest" (aP aK7) (aN aK7) (aG aK7) .none kV50 dc50 pm50 an50 cd50 ct50),sl50⟩) (c50:W.codeIn K cd50 "_law_lowest"=true) (k50:W.keepIn K (.ref f50)=true)
  (a51:W.nsIn K mainGlobals "_law_listed"=some (some (.ref f51))) (l51:K.lookup f51=some ⟨oc51,od51,.func (W.fnOf "_law_listed" "_law_listed" (aP aN8) (aN aN8) (aG aN8) .none kV51 dc51 pm51 an51 cd51 ct51),sl51⟩) (c51:W.codeIn K cd51 "_law_listed"=true) (k51:W.keepIn K (.ref f51)=true)
  (a52:W.nsIn K mainGlobals "_law_names_in"=some (some (.ref f52))) (l52:K.lookup f52=some ⟨oc52,od52,.func (W.fnOf "_law_names_in" "_law_names_in" (aP aO0) (aN aO0) (aG aO0) .none kV52 dc52 pm52 an52 cd52 ct52),sl52⟩) (c52:W.codeIn K cd52 "_law_names_in"=true) (k52:W.keepIn K (.ref f52)=true)
  (a53:W.nsIn K mainGlobals "_law_needed"=some (some (.ref f53))) (l53:K.lookup f53=some ⟨oc53,od53,.func (W.fnOf "_law_needed" "_law_needed" (aP aL1) (aN aL1) (aG aL1) .none kV53 dc53 pm53 an53 cd53 ct53),sl53⟩) (c53:W.codeIn K cd53 "_law_needed"=true) (k53:W.keepIn K (.ref f53)=true)
  (a54:W.nsIn K mainGlobals "_law_idle"=some (some (.ref f54))) (l54:K.lookup f54=some ⟨oc54,od54,.func (W.fnOf "_law_idle" "_law_idle" (aP aF6) (aN aF6) (aG aF6) .none kV54 dc54 pm54 an54 cd54 ct54),sl54⟩) (c54:W.codeIn K cd54 "_law_idle"=true) (k54:W.keepIn K (.ref f54)=true)
  (a55:W.nsIn K mainGlobals "_law_tail"=some (some (.ref f55))) (l55:K.lookup f55=some ⟨oc55,od55,.func (W.fnOf "_law_tail" "_law_tail" (aP aL7) (aN aL7) (aG aL7) .none kV55 dc55 pm55 an55 cd55 ct55),sl55⟩) (c55:W.codeIn K cd55 "_law_tail"=true) (k55:W.keepIn K (.ref f55)=true)
  (a56:W.nsIn K mainGlobals "_law_row_price"=some (some (.ref f56))) (l56:K.lookup f56=some ⟨oc56,od56,.func (W.fnOf "_law_row_price" "_law_row_price" (aP aO7) (aN aO7) (aG aO7) .none kV56 dc56 pm56 an56 cd56 ct56),sl56⟩) (c56:W.codeIn K cd56 "_law_row_price"=true) (k56:W.keepIn K (.ref f56)=true)
  (a57:W.nsIn K mainGlobals "_law_times"=some (some (.ref f57))) (l57:K.lookup f57=some ⟨oc57,od57,.func (W.fnOf "_law_times" "_law_times" (aP aH8) (aN aH8) (aG aH8) .none kV57 dc57 pm57 an57 cd57 ct57),sl57⟩) (c57:W.codeIn K cd57 "_law_times"=true) (k57:W.keepIn K (.ref f57)=true)
  (a58:W.nsIn K mainGlobals "_law_added"=some (some (.ref f58))) (l58:K.lookup f58=some ⟨oc58,od58,.func (W.fnOf "_law_added" "_law_added" (aP aO4) (aN aO4) (aG aO4) .none kV58 dc58 pm58 an58 cd58 ct58),sl58⟩) (c58:W.codeIn K cd58 "_law_added"=true) (k58:W.keepIn K (.ref f58)=true)
  (a59:W.nsIn K mainGlobals "_law_below"=some (some (.ref f59))) (l59:K.lookup f59=some ⟨oc59,od59,.func (W.fnOf "_law_below" "_law_below" (aP aJ1) (aN aJ1) (aG aJ1) .none kV59 dc59 pm59 an59 cd59 ct59),sl59⟩) (c59:W.codeIn K cd59 "_law_below"=true) (k59:W.keepIn K (.ref f59)=true)
  (a60:W.nsIn K mainGlobals "_law_greater"=some (some (.ref f60))) (l60:K.lookup f60=some ⟨oc60,od60,.func (W.fnOf "_law_greater" "_law_greater" (aP aI9) (aN aI9) (aG aI9) .none kV60 dc60 pm60 an60 cd60 ct60),sl60⟩) (c60:W.codeIn K cd60 "_law_greater"=true) (k60:W.keepIn K (.ref f60)=true)
  (a61:W.nsIn K mainGlobals "_law_joined"=some (some (.ref f61))) (l61:K.lookup f61=some ⟨oc61,od61,.func (W.fnOf "_law_joined" "_law_joined" (aP aK6) (aN aK6) (aG aK6) .none kV61 dc61 pm61 an61 cd61 ct61),sl61⟩) (c61:W.codeIn K cd61 "_law_joined"=true) (k61:W.keepIn K (.ref f61)=true)
  (a62:W.nsIn K mainGlobals "_law_rule"=some (some (.ref f62))) (l62:K.lookup f62=some ⟨oc62,od62,.func (W.fnOf "_law_rule" "_law_rule" (aP aO2) (aN aO2) (aG aO2) .none kV62 dc62 pm62 an62 cd62 ct62),sl62⟩) (c62:W.codeIn K cd62 "_law_rule"=true) (k62:W.keepIn K (.ref f62)=true)
  (a63:W.nsIn K mainGlobals "_law_inner"=some (some (.ref f63))) (l63:K.lookup f63=some ⟨oc63,od63,.func (W.fnOf "_law_inner" "_law_inner" (aP aM5) (aN aM5) (aG aM5) .none kV63 dc63 pm63 an63 cd63 ct63),sl63⟩) (c63:W.codeIn K cd63 "_law_inner"=true) (k63:W.keepIn K (.ref f63)=true)
  (a64:W.nsIn K mainGlobals "_law_lines"=some (some (.ref f64))) (l64:K.lookup f64=some ⟨oc64,od64,.func (W.fnOf "_law_lines" "_law_lines" (aP aG2) (aN aG2) (aG aG2) .none kV64 dc64 pm64 an64 cd64 ct64),sl64⟩) (c64:W.codeIn K cd64 "_law_lines"=true) (k64:W.keepIn K (.ref f64)=true)
  (a65:W.nsIn K mainGlobals "_law_same"=some (some (.ref f65))) (l65:K.lookup f65=some ⟨oc65,od65,.func (W.fnOf "_law_same" "_law_same" (aP aM6) (aN aM6) (aG aM6) .none kV65 dc65 pm65 an65 cd65 ct65),sl65⟩) (c65:W.codeIn K cd65 "_law_same"=true) (k65:W.keepIn K (.ref f65)=true)
  (a66:W.nsIn K mainGlobals "_law_right"=some (some (.ref f66))) (l66:K.lookup f66=some ⟨oc66,od66,.func (W.fnOf "_law_right" "_law_right" (aP aG3) (aN aG3) (aG aG3) .none kV66 dc66 pm66 an66 cd66 ct66),sl66⟩) (c66:W.codeIn K cd66 "_law_right"=true) (k66:W.keepIn K (.ref f66)=true)
  (a67:W.nsIn K mainGlobals "_law_chain"=some (some (.ref f67))) (l67:K.lookup f67=some ⟨oc67,od67,.func (W.fnOf "_law_chain" "_law_chain" (aP aL2) (aN aL2) (aG aL2) .none kV67 dc67 pm67 an67 cd67 ct67),sl67⟩) (c67:W.codeIn K cd67 "_law_chain"=true) (k67:W.keepIn K (.ref f67)=true)
  (a68:W.nsIn K mainGlobals "law"=some (some (.ref f68))) (l68:K.lookup f68=some ⟨oc68,od68,.func (W.fnOf "law" "law" (aP tR) (aN tR) (aG tR) .none kV68 dc68 pm68 an68 cd68 ct68),sl68⟩) (c68:W.codeIn K cd68 "law"=true) (k68:W.keepIn K (.ref f68)=true)
  (z_reversed:W.nsIn K mainGlobals "reversed"=some none)
  (z_isinstance:W.nsIn K mainGlobals "isinstance"=some none)
  (z_str:W.nsIn K mainGlobals "str"=some none)
  (z_len:W.nsIn K mainGlobals "len"=some none)
  (z_list:W.nsIn K mainGlobals "list"=some none)
  (z_range:W.nsIn K mainGlobals "range"=some none)
  (z_zip:W.nsIn K mainGlobals "zip"=some none)
  (z_tuple:W.nsIn K mainGlobals "tuple"=some none)
  (z_sorted:W.nsIn K mainGlobals "sorted"=some none)
  (z_max:W.nsIn K mainGlobals "max"=some none)
  (z_min:W.nsIn K mainGlobals "min"=some none)
  (z_int:W.nsIn K mainGlobals "int"=some none)
  (z_set:W.nsIn K mainGlobals "set"=some none)
  (z_repr:W.nsIn K mainGlobals "repr"=some none)
  (qT:W.nsIn K mainGlobals "THROWS"=some (some (.ref xcT)))
  (uT:K.lookup xcT=some ⟨.type "tuple",odT,.seq itsT nT,slT⟩)
  (vT:bP (dZ.map V.str) itsT.toList)
  (qF:W.nsIn K mainGlobals "FREE"=some (some (.ref xcF)))
  (uF:K.lookup xcF=some ⟨.type "tuple",odF,.seq itsF nF,slF⟩)
  (vF:bP [V.ref xcG,V.ref xcH] itsF.toList)
  (uG:K.lookup xcG=some ⟨.type "tuple",odG,.seq itsG nG,slG⟩)
  (vG:bP [V.int 1,V.int 1] itsG.toList)
  (uH:K.lookup xcH=some ⟨.type "tuple",odH,.seq itsH nH,slH⟩)
  (vH:bP [V.int 0,V.int 1] itsH.toList) :
  ∃ fd:FuncData,(∀ (s:Shared) (v:Value),BindsTo s fd ⟨[v],[]⟩ [("_law_script",v)])/\∀ base:Heap,K.In base->base.Ns mainGlobals mg->bQ l.prog w K mg base dS 19 fa fd ["_law_script"] (aA3 K):=by
 have e:=hfa.symm.trans (W.mg_of X G a68)
 cases e
 have F1:=aY (st:=aN3) l1 c1 k1;have b1:=F1.b1 (p1:="sort") fun _ _ _ _ _ _ _=>rfl
 have m1:=W.mg_of X G a1;have F2:=aY (st:=aM8) l2 c2 k2;have b2:=F2.b1 (p1:="sort") fun _ _ _ _ _ _ _=>rfl
 have m2:=W.mg_of X G a2;have F3:=aY (st:=aP1) l3 c3 k3;have b3:=F3.b1 (p1:="row") fun _ _ _ _ _ _ _=>rfl
 have m3:=W.mg_of X G a3;have F4:=aY (st:=aO5) l4 c4 k4;have b4:=F4.b1 (p1:="term") fun _ _ _ _ _ _ _=>rfl
 have m4:=W.mg_of X G a4;have F5:=aY (st:=aM9) l5 c5 k5;have b5:=F5.b1 (p1:="term") fun _ _ _ _ _ _ _=>rfl
 have m5:=W.mg_of X G a5;have F6:=aY (st:=aL8) l6 c6 k6;have b6:=F6.b1 (p1:="row") fun _ _ _ _ _ _ _=>rfl
 have m6:=W.mg_of X G a6;have F7:=aY (st:=aM2) l7 c7 k7;have b7:=F7.b1 (p1:="row") fun _ _ _ _ _ _ _=>rfl
 have m7:=W.mg_of X G a7;have F8:=aY (st:=aI8) l8 c8 k8;have b8:=F8.b1 (p1:="rows") fun _ _ _ _ _ _ _=>rfl
 have m8:=W.mg_of X G a8;have F9:=aY (st:=aI4) l9 c9 k9;have b9:=F9.b1 (p1:="row") fun _ _ _ _ _ _ _=>rfl
 have m9:=W.mg_of X G a9;have F10:=aY (st:=aI0) l10 c10 k10;have b10:=F10.b1 (p1:="rows") fun _ _ _ _ _ _ _=>rfl
 have m10:=W.mg_of X G a10;have F11:=aY (st:=aH5) l11 c11 k11;have b11:=F11.b1 (p1:="part") fun _ _ _ _ _ _ _=>rfl
 have m11:=W.mg_of X G a11;have F12:=aY (st:=aF5) l12 c12 k12;have b12:=F12.b1 (p1:="part") fun _ _ _ _ _ _ _=>rfl
 have m12:=W.mg_of X G a12;have F13:=aY (st:=aJ0) l13 c13 k13;have b13:=F13.b2 (p1:="place") (p2:="part") fun _ _ _ _ _ _ _ _=>rfl
 have m13:=W.mg_of X G a13;have F14:=aY (st:=aG4) l14 c14 k14;have b14:=F14.b1 (p1:="rows") fun _ _ _ _ _ _ _=>rfl
 have m14:=W.mg_of X G a14;have F15:=aY (st:=aO9) l15 c15 k15;have b15:=F15.b2 (p1:="one") (p2:="other") fun _ _ _ _ _ _ _ _=>rfl
 have m15:=W.mg_of X G a15;have F16:=aY (st:=aP5) l16 c16 k16;have b16:=F16.b2 (p1:="top") (p2:="bottom") fun _ _ _ _ _ _ _ _=>rfl
 have m16:=W.mg_of X G a16;have F17:=aY (st:=aL0) l17 c17 k17;have b17:=F17.b2 (p1:="one") (p2:="other") fun _ _ _ _ _ _ _ _=>rfl
 have m17:=W.mg_of X G a17;have F18:=aY (st:=aK5) l18 c18 k18;have b18:=F18.b2 (p1:="one") (p2:="other") fun _ _ _ _ _ _ _ _=>rfl
 have m18:=W.mg_of X G a18;have F19:=aY (st:=mO) l19 c19 k19;have b19:=F19.b2 (p1:="one") (p2:="other") fun _ _ _ _ _ _ _ _=>rfl
 have m19:=W.mg_of X G a19;have F20:=aY (st:=aO3) l20 c20 k20;have b20:=F20.b2 (p1:="one") (p2:="k") fun _ _ _ _ _ _ _ _=>rfl
 have m20:=W.mg_of X G a20;have F21:=aY (st:=aI6) l21 c21 k21;have b21:=F21.b2 (p1:="one") (p2:="other") fun _ _ _ _ _ _ _ _=>rfl
 have m21:=W.mg_of X G a21;have F22:=aY (st:=aH4) l22 c22 k22;have b22:=F22.b1 (p1:="program") fun _ _ _ _ _ _ _=>rfl
 have m22:=W.mg_of X G a22;have F23:=aY (st:=aO8) l23 c23 k23;have b23:=F23.b1 (p1:="rows") fun _ _ _ _ _ _ _=>rfl
 have m23:=W.mg_of X G a23;have F24:=aY (st:=aN9) l24 c24 k24;have b24:=F24.b1 (p1:="program") fun _ _ _ _ _ _ _=>rfl
 have m24:=W.mg_of X G a24;have F25:=aY (st:=aK8) l25 c25 k25;have b25:=F25.b2 (p1:="row") (p2:="names") fun _ _ _ _ _ _ _ _=>rfl
 have m25:=W.mg_of X G a25;have F26:=aY (st:=aJ5) l26 c26 k26;have b26:=F26.b2 (p1:="steepness") (p2:="k") fun _ _ _ _ _ _ _ _=>rfl
 have m26:=W.mg_of X G a26;have F27:=aY (st:=sP) l27 c27 k27;have b27:=F27.b2 (p1:="steepness") (p2:="k") fun _ _ _ _ _ _ _ _=>rfl
 have m27:=W.mg_of X G a27;have F28:=aY (st:=aK3) l28 c28 k28;have b28:=F28.b2 (p1:="steepness") (p2:="k") fun _ _ _ _ _ _ _ _=>rfl
 have m28:=W.mg_of X G a28;have F29:=aY (st:=aP6) l29 c29 k29;have b29:=F29.b2 (p1:="row") (p2:="kind") fun _ _ _ _ _ _ _ _=>rfl
 have m29:=W.mg_of X G a29;have F30:=aY (st:=aM1) l30 c30 k30;have b30:=F30.b2 (p1:="row") (p2:="kind") fun _ _ _ _ _ _ _ _=>rfl
 have m30:=W.mg_of X G a30;have F31:=aY (st:=aO1) l31 c31 k31;have b31:=F31.b1 (p1:="prices") fun _ _ _ _ _ _ _=>rfl
 have m31:=W.mg_of X G a31;have F32:=aY (st:=aK4) l32 c32 k32;have b32:=F32.b1 (p1:="fractions") fun _ _ _ _ _ _ _=>rfl
 have m32:=W.mg_of X G a32;have F33:=aY (st:=aP4) l33 c33 k33;have b33:=F33.b1 (p1:="prices") fun _ _ _ _ _ _ _=>rfl
 have m33:=W.mg_of X G a33;have F34:=aY (st:=aH6) l34 c34 k34;have b34:=F34.b2 (p1:="part") (p2:="prices") fun _ _ _ _ _ _ _ _=>rfl
 have m34:=W.mg_of X G a34;have F35:=aY (st:=aH7) l35 c35 k35;have b35:=F35.b2 (p1:="program") (p2:="kind") fun _ _ _ _ _ _ _ _=>rfl
 have m35:=W.mg_of X G a35;have F36:=aY (st:=aN7) l36 c36 k36;have b36:=F36.b2 (p1:="program") (p2:="kind") fun _ _ _ _ _ _ _ _=>rfl
 have m36:=W.mg_of X G a36;have F37:=aY (st:=aH1) l37 c37 k37;have b37:=F37.b1 (p1:="program") fun _ _ _ _ _ _ _=>rfl
 have m37:=W.mg_of X G a37;have F38:=aY (st:=sH) l38 c38 k38;have b38:=F38.b2 (p1:="_law_script") (p2:="_law_base") fun _ _ _ _ _ _ _ _=>rfl
 have m38:=W.mg_of X G a38;have F39:=aY (st:=rZ) l39 c39 k39;have b39:=F39.b2 (p1:="_law_deal_here") (p2:="_law_many") fun _ _ _ _ _ _ _ _=>rfl
 have m39:=W.mg_of X G a39;have F40:=aY (st:=aN0) l40 c40 k40;have b40:=F40.b2 (p1:="_law_deal_here") (p2:="_law_many") fun _ _ _ _ _ _ _ _=>rfl
 have m40:=W.mg_of X G a40;have F41:=aY (st:=aG9) l41 c41 k41;have b41:=F41.b2 (p1:="_law_deal_here") (p2:="_law_half") fun _ _ _ _ _ _ _ _=>rfl
 have m41:=W.mg_of X G a41;have F42:=aY (st:=aN1) l42 c42 k42;have b42:=F42.b2 (p1:="_law_deal_here") (p2:="_law_many") fun _ _ _ _ _ _ _ _=>rfl
 have m42:=W.mg_of X G a42;have F43:=aY (st:=aO6) l43 c43 k43;have b43:=F43.b3 (p1:="_law_deal_here") (p2:="_law_world") (p3:="_law_x") fun _ _ _ _ _ _ _ _ _=>rfl
 have m43:=W.mg_of X G a43;have F44:=aY (st:=aK2) l44 c44 k44;have b44:=F44.b3 (p1:="_law_deal_here") (p2:="_law_known") (p3:="_law_room") fun _ _ _ _ _ _ _ _ _=>rfl
 have m44:=W.mg_of X G a44;have F45:=aY (st:=aL9) l45 c45 k45;have b45:=F45.b5 (p1:="_law_deal_here") (p2:="_law_world") (p3:="_law_known") (p4:="_law_deep") (p5:="_law_often") fun _ _ _ _ _ _ _ _ _ _ _=>rfl
 have m45:=W.mg_of X G a45;have F46:=aY (st:=aK1) l46 c46 k46;have b46:=F46.b6 (p1:="_law_deal_here") (p2:="_law_world") (p3:="_law_known") (p4:="_law_deep") (p5:="_law_tells") (p6:="_law_often") fun _ _ _ _ _ _ _ _ _ _ _ _=>rfl
 have m46:=W.mg_of X G a46;have F47:=aY (st:=aJ3) l47 c47 k47;have b47:=F47.b4 (p1:="_law_deal_here") (p2:="_law_kinds") (p3:="_law_throws") (p4:="_law_wide") fun _ _ _ _ _ _ _ _ _ _=>rfl
 have m47:=W.mg_of X G a47;have F48:=aY (st:=aH9) l48 c48 k48;have b48:=F48.b2 (p1:="_law_n") (p2:="_law_k") fun _ _ _ _ _ _ _ _=>rfl
 have m48:=W.mg_of X G a48;have F49:=aY (st:=aL3) l49 c49 k49;have b49:=F49.b2 (p1:="_law_one") (p2:="_law_other") fun _ _ _ _ _ _ _ _=>rfl
 have m49:=W.mg_of X G a49;have F50:=aY (st:=aK7) l50 c50 k50;have b50:=F50.b2 (p1:="_law_top") (p2:="_law_bottom") fun _ _ _ _ _ _ _ _=>rfl
 have m50:=W.mg_of X G a50;have F51:=aY (st:=aN8) l51 c51 k51;have b51:=F51.b1 (p1:="_law_rows_here") fun _ _ _ _ _ _ _=>rfl
 have m51:=W.mg_of X G a51;have F52:=aY (st:=aO0) l52 c52 k52;have b52:=F52.b1 (p1:="_law_term_here") fun _ _ _ _ _ _ _=>rfl
 have m52:=W.mg_of X G a52;have F53:=aY (st:=aL1) l53 c53 k53;have b53:=F53.b1 (p1:="_law_program_here") fun _ _ _ _ _ _ _=>rfl
 have m53:=W.mg_of X G a53;have F54:=aY (st:=aF6) l54 c54 k54;have b54:=F54.b2 (p1:="_law_row_here") (p2:="_law_names_here") fun _ _ _ _ _ _ _ _=>rfl
 have m54:=W.mg_of X G a54;have F55:=aY (st:=aL7) l55 c55 k55;have b55:=F55.b2 (p1:="_law_steep_here") (p2:="_law_k") fun _ _ _ _ _ _ _ _=>rfl
 have m55:=W.mg_of X G a55;have F56:=aY (st:=aO7) l56 c56 k56;have b56:=F56.b2 (p1:="_law_row_here") (p2:="_law_kind") fun _ _ _ _ _ _ _ _=>rfl
 have m56:=W.mg_of X G a56;have F57:=aY (st:=aH8) l57 c57 k57;have b57:=F57.b2 (p1:="_law_one") (p2:="_law_other") fun _ _ _ _ _ _ _ _=>rfl
 have m57:=W.mg_of X G a57;have F58:=aY (st:=aO4) l58 c58 k58;have b58:=F58.b2 (p1:="_law_one") (p2:="_law_other") fun _ _ _ _ _ _ _ _=>rfl
 have m58:=W.mg_of X G a58;have F59:=aY (st:=aJ1) l59 c59 k59;have b59:=F59.b2 (p1:="_law_one") (p2:="_law_other") fun _ _ _ _ _ _ _ _=>rfl
 have m59:=W.mg_of X G a59;have F60:=aY (st:=aI9) l60 c60 k60;have b60:=F60.b2 (p1:="_law_one") (p2:="_law_other") fun _ _ _ _ _ _ _ _=>rfl
 have m60:=W.mg_of X G a60;have F61:=aY (st:=aK6) l61 c61 k61;have b61:=F61.b4 (p1:="_law_rule_here") (p2:="_law_row_here") (p3:="_law_some") (p4:="_law_kind") fun _ _ _ _ _ _ _ _ _ _=>rfl
 have m61:=W.mg_of X G a61;have F62:=aY (st:=aO2) l62 c62 k62;have b62:=F62.b2 (p1:="_law_part") (p2:="_law_names_here") fun _ _ _ _ _ _ _ _=>rfl
 have m62:=W.mg_of X G a62;have F63:=aY (st:=aM5) l63 c63 k63;have b63:=F63.b1 (p1:="_law_part") fun _ _ _ _ _ _ _=>rfl
 have m63:=W.mg_of X G a63;have F64:=aY (st:=aG2) l64 c64 k64;have b64:=F64.b4 (p1:="_law_part") (p2:="_law_place") (p3:="_law_names_here") (p4:="_law_kind") fun _ _ _ _ _ _ _ _ _ _=>rfl
 have m64:=W.mg_of X G a64;have F65:=aY (st:=aM6) l65 c65 k65;have b65:=F65.b2 (p1:="_law_found") (p2:="_law_due") fun _ _ _ _ _ _ _ _=>rfl
 have m65:=W.mg_of X G a65;have F66:=aY (st:=aG3) l66 c66 k66;have b66:=F66.b1 (p1:="_law_program_here") fun _ _ _ _ _ _ _=>rfl
 have m66:=W.mg_of X G a66;have F67:=aY (st:=aL2) l67 c67 k67;have b67:=F67.b1 (p1:="_law_deal_here") fun _ _ _ _ _ _ _=>rfl
 have m67:=W.mg_of X G a67;have F68:=aY (st:=tR) l68 c68 k68;have y_reversed:=W.mg_none_of X G z_reversed;have y_isinstance:=W.mg_none_of X G z_isinstance;have y_str:=W.mg_none_of X G z_str;have y_len:=W.mg_none_of X G z_len;have y_list:=W.mg_none_of X G z_list;have y_range:=W.mg_none_of X G z_range;have y_zip:=W.mg_none_of X G z_zip;have y_tuple:=W.mg_none_of X G z_tuple;have y_sorted:=W.mg_none_of X G z_sorted;have y_max:=W.mg_none_of X G z_max;have y_min:=W.mg_none_of X G z_min;have y_int:=W.mg_none_of X G z_int;have y_set:=W.mg_none_of X G z_set;have y_repr:=W.mg_none_of X G z_repr;refine ⟨W.fnOf "law" "law" (aP tR) (aN tR) (aG tR) .none kV68 dc68 pm68 an68 cd68 ct68,fun s v=> .of_eq rfl,fun base _ _=>?_⟩;have mT:=W.mg_of X G qT;have zT:itsT.size<=sizeLine:=by
  have e:=vT.length;have e2:itsT.size=4:=by rw [<- Array.length_toList];simpa [dZ] using e.symm
  rw [e2]
  decide
 have mF:=W.mg_of X G qF;have zz:∀ {vs:List V}{its:Array Value},bP vs its.toList->vs.length<=2->its.size<=sizeLine:=fun {vs its} v l=>by
  have e:=v.length;rw [<- Array.length_toList, <- e];exact Nat.le_trans l (by decide)
 have hF:∀ H,aX K H xcF [.ref xcG,.ref xcH]/\bU K H xcG (1,1)/\bU K H xcH (0,1):=fun H=>⟨.inr ⟨_,itsF,nF,uF,rfl,rfl,zz vF (by show 2<=2;decide),vF⟩,.inr ⟨_,itsG,nG,uG,rfl,rfl,zz vG (by show 2<=2;decide),vG⟩,.inr ⟨_,itsH,nH,uH,rfl,rfl,zz vH (by show 2<=2;decide),vH⟩⟩
 have hT:∀ H,aX K H xcT (dZ.map V.str):=fun H=> .inr ⟨_,itsT,nT,uT,rfl,rfl,zT,vT⟩
 have G1:=bP6 (P:=l.prog) (w:=w) (mg:=mg) (base:=base) F1;have C1:Cl l.prog w K mg base _ _ _ _:=⟨_,_,G1,b1,k1,m1⟩
 have G2:=bV0 (P:=l.prog) (w:=w) (mg:=mg) (base:=base) F2;have C2:Cl l.prog w K mg base _ _ _ _:=⟨_,_,G2,b2,k2,m2⟩
 have G3:=bW6 (P:=l.prog) (w:=w) (mg:=mg) (base:=base) F3  C2 C1;have C3:Cl l.prog w K mg base _ _ _ _:=⟨_,_,G3,b3,k3,m3⟩
 have G4:=bT8 (P:=l.prog) (w:=w) (mg:=mg) (base:=base) F4;have C4:Cl l.prog w K mg base _ _ _ _:=⟨_,_,G4,b4,k4,m4⟩
 have G5:=bP2 (P:=l.prog) (w:=w) (mg:=mg) (base:=base) F5  C4;have C5:Cl l.prog w K mg base _ _ _ _:=⟨_,_,G5,b5,k5,m5⟩
 have G6:=bL0 (P:=l.prog) (w:=w) (mg:=mg) (base:=base) F6 mT hT;have C6:Cl l.prog w K mg base _ _ _ _:=⟨_,_,G6,b6,k6,m6⟩
 have G7:=bW2 (P:=l.prog) (w:=w) (mg:=mg) (base:=base) F7  C5;have C7:Cl l.prog w K mg base _ _ _ _:=⟨_,_,G7,b7,k7,m7⟩
 have G8:=bW3 (P:=l.prog) (w:=w) (mg:=mg) (base:=base) F8;have C8:Cl l.prog w K mg base _ _ _ _:=⟨_,_,G8,b8,k8,m8⟩
 have G9:=bT3 (P:=l.prog) (w:=w) (mg:=mg) (base:=base) F9  C8;have C9:Cl l.prog w K mg base _ _ _ _:=⟨_,_,G9,b9,k9,m9⟩
 have G10:=bP8 (P:=l.prog) (w:=w) (mg:=mg) (base:=base) F10  C8 C9 y_reversed;have C10:Cl l.prog w K mg base _ _ _ _:=⟨_,_,G10,b10,k10,m10⟩
 have G11:=bR7 (P:=l.prog) (w:=w) (mg:=mg) (base:=base) F11   y_isinstance y_str y_len;have C11:Cl l.prog w K mg base _ _ _ _:=⟨_,_,G11,b11,k11,m11⟩
 have G12:=bW9 (P:=l.prog) (w:=w) (mg:=mg) (base:=base) F12  C11 y_list;have C12:Cl l.prog w K mg base _ _ _ _:=⟨_,_,G12,b12,k12,m12⟩
 have G13:=bO7 (P:=l.prog) (w:=w) (mg:=mg) (base:=base) F13  C12 y_range y_len;have C13:Cl l.prog w K mg base _ _ _ _:=⟨_,_,G13,b13,k13,m13⟩
 have G14:=bW1 (P:=l.prog) (w:=w) (mg:=mg) (base:=base) F14  C13 C12 y_list y_reversed y_zip;have C14:Cl l.prog w K mg base _ _ _ _:=⟨_,_,G14,b14,k14,m14⟩
 have G15:=bS9 (P:=l.prog) (w:=w) (mg:=mg) (base:=base) F15;have C15:Cl l.prog w K mg base _ _ _ _:=⟨_,_,G15,b15,k15,m15⟩
 have G16:=bQ7 (P:=l.prog) (w:=w) (mg:=mg) (base:=base) F16  C15;have C16:Cl l.prog w K mg base _ _ _ _:=⟨_,_,G16,b16,k16,m16⟩
 have G17:=bR0 (P:=l.prog) (w:=w) (mg:=mg) (base:=base) F17  C16;have C17:Cl l.prog w K mg base _ _ _ _:=⟨_,_,G17,b17,k17,m17⟩
 have G18:=bS7 (P:=l.prog) (w:=w) (mg:=mg) (base:=base) F18  C16;have C18:Cl l.prog w K mg base _ _ _ _:=⟨_,_,G18,b18,k18,m18⟩
 have G19:=aW9 (P:=l.prog) (w:=w) (mg:=mg) (base:=base) F19  C16;have C19:Cl l.prog w K mg base _ _ _ _:=⟨_,_,G19,b19,k19,m19⟩
 have G20:=bN7 (P:=l.prog) (w:=w) (mg:=mg) (base:=base) F20   y_range;have C20:Cl l.prog w K mg base _ _ _ _:=⟨_,_,G20,b20,k20,m20⟩
 have G21:=bQ4 (P:=l.prog) (w:=w) (mg:=mg) (base:=base) F21;have C21:Cl l.prog w K mg base _ _ _ _:=⟨_,_,G21,b21,k21,m21⟩
 have G22:=bV3 (P:=l.prog) (w:=w) (mg:=mg) (base:=base) F22  C10;have C22:Cl l.prog w K mg base _ _ _ _:=⟨_,_,G22,b22,k22,m22⟩
 have G23:=bL4 (P:=l.prog) (w:=w) (mg:=mg) (base:=base) F23  C7;have C23:Cl l.prog w K mg base _ _ _ _:=⟨_,_,G23,b23,k23,m23⟩
 have G24:=bW4 (P:=l.prog) (w:=w) (mg:=mg) (base:=base) F24  C22 C23 C7 y_tuple y_sorted;have C24:Cl l.prog w K mg base _ _ _ _:=⟨_,_,G24,b24,k24,m24⟩
 have G25:=bW7 (P:=l.prog) (w:=w) (mg:=mg) (base:=base) F25  C6;have C25:Cl l.prog w K mg base _ _ _ _:=⟨_,_,G25,b25,k25,m25⟩
 have G26:=bL1 (P:=l.prog) (w:=w) (mg:=mg) (base:=base) F26  C18 C20;have C26:Cl l.prog w K mg base _ _ _ _:=⟨_,_,G26,b26,k26,m26⟩
 have G27:=bG0 (P:=l.prog) (w:=w) (mg:=mg) (base:=base) F27  C19 C26;have C27:Cl l.prog w K mg base _ _ _ _:=⟨_,_,G27,b27,k27,m27⟩
 have G28:=bO6 (P:=l.prog) (w:=w) (mg:=mg) (base:=base) F28  C20;have C28:Cl l.prog w K mg base _ _ _ _:=⟨_,_,G28,b28,k28,m28⟩
 have G29:=bQ1 (P:=l.prog) (w:=w) (mg:=mg) (base:=base) F29 mF hF C18 C28 C16 C27 C3 y_max y_min;have C29:Cl l.prog w K mg base _ _ _ _:=⟨_,_,G29,b29,k29,m29⟩
 have G30:=bV6 (P:=l.prog) (w:=w) (mg:=mg) (base:=base) F30 mT hT mF hF C29;have C30:Cl l.prog w K mg base _ _ _ _:=⟨_,_,G30,b30,k30,m30⟩
 have G31:=bL2 (P:=l.prog) (w:=w) (mg:=mg) (base:=base) F31 mF hF C18 C17;have C31:Cl l.prog w K mg base _ _ _ _:=⟨_,_,G31,b31,k31,m31⟩
 have G32:=bS6 (P:=l.prog) (w:=w) (mg:=mg) (base:=base) F32  C21;have C32:Cl l.prog w K mg base _ _ _ _:=⟨_,_,G32,b32,k32,m32⟩
 have G33:=bT7 (P:=l.prog) (w:=w) (mg:=mg) (base:=base) F33  C32;have C33:Cl l.prog w K mg base _ _ _ _:=⟨_,_,G33,b33,k33,m33⟩
 have G34:=bL8 (P:=l.prog) (w:=w) (mg:=mg) (base:=base) F34 mF hF C20 C11 C31 C33 C18;have C34:Cl l.prog w K mg base _ _ _ _:=⟨_,_,G34,b34,k34,m34⟩
 have G35:=bS3 (P:=l.prog) (w:=w) (mg:=mg) (base:=base) F35 mT hT mF hF C24 C14 C11 C25 C30 C34 C12 C13;have C35:Cl l.prog w K mg base _ _ _ _:=⟨_,_,G35,b35,k35,m35⟩
 have G36:=bP9 (P:=l.prog) (w:=w) (mg:=mg) (base:=base) F36  C35;have C36:Cl l.prog w K mg base _ _ _ _:=⟨_,_,G36,b36,k36,m36⟩
 have G37:=bM2 (P:=l.prog) (w:=w) (mg:=mg) (base:=base) F37  C33 C36 y_range y_len;have C37:Cl l.prog w K mg base _ _ _ _:=⟨_,_,G37,b37,k37,m37⟩
 have G38:=bI1 (P:=l.prog) (w:=w) (mg:=mg) (base:=base) F38 y_max y_reversed y_list;have C38:Cl l.prog w K mg base _ _ _ _:=⟨_,_,G38,b38,k38,m38⟩
 have G39:=bA2 (P:=l.prog) (w:=w) (mg:=mg) (base:=base) F39 y_len;have C39:Cl l.prog w K mg base _ _ _ _:=⟨_,_,G39,b39,k39,m39⟩
 have G40:=bU0 (P:=l.prog) (w:=w) (mg:=mg) (base:=base) F40  C39 y_range;have C40:Cl l.prog w K mg base _ _ _ _:=⟨_,_,G40,b40,k40,m40⟩
 have G41:=bT4 (P:=l.prog) (w:=w) (mg:=mg) (base:=base) F41  C39 y_int;have C41:Cl l.prog w K mg base _ _ _ _:=⟨_,_,G41,b41,k41,m41⟩
 have G42:=bR2 (P:=l.prog) (w:=w) (mg:=mg) (base:=base) F42  C39 y_tuple y_range;have C42:Cl l.prog w K mg base _ _ _ _:=⟨_,_,G42,b42,k42,m42⟩
 have G43:=bN3 (P:=l.prog) (w:=w) (mg:=mg) (base:=base) F43  C39 C41 C42 y_tuple y_range;have C43:Cl l.prog w K mg base _ _ _ _:=⟨_,_,G43,b43,k43,m43⟩
 have GT44:∀ n:Nat,bQ l.prog w K mg base dS (n+1) f44 _ ["_law_deal_here","_law_known","_law_room"] (aU3 n):=fun n=>by
  induction n with
  | zero=>exact sM
  | succ n ih=>exact bO1 (P:=l.prog) (w:=w) (mg:=mg) (base:=base) n F44 ⟨_,_,ih,b44,k44,m44⟩ C39 y_len
 have G44:=GT44 7;have C44:Cl l.prog w K mg base _ _ _ _:=⟨_,_,G44,b44,k44,m44⟩
 have W0:=tP (P:=l.prog) (w:=w) (mg:=mg) (base:=base) 0 F45 C39 C44 ⟨_,_,sM,b46,k46,m46⟩ C43 y_int y_len;have B0:=uI (P:=l.prog) (w:=w) (mg:=mg) (base:=base) 0 F46 C39 ⟨_,_,W0,b45,k45,m45⟩ C44 y_range y_tuple;have W1:=tP (P:=l.prog) (w:=w) (mg:=mg) (base:=base) 1 F45 C39 C44 ⟨_,_,B0,b46,k46,m46⟩ C43 y_int y_len;have B1:=uI (P:=l.prog) (w:=w) (mg:=mg) (base:=base) 1 F46 C39 ⟨_,_,W1,b45,k45,m45⟩ C44 y_range y_tuple;have W2:=tP (P:=l.prog) (w:=w) (mg:=mg) (base:=base) 2 F45 C39 C44 ⟨_,_,B1,b46,k46,m46⟩ C43 y_int y_len;have B2:=uI (P:=l.prog) (w:=w) (mg:=mg) (base:=base) 2 F46 C39 ⟨_,_,W2,b45,k45,m45⟩ C44 y_range y_tuple;have W3:=tP (P:=l.prog) (w:=w) (mg:=mg) (base:=base) 3 F45 C39 C44 ⟨_,_,B2,b46,k46,m46⟩ C43 y_int y_len;have B3:=uI (P:=l.prog) (w:=w) (mg:=mg) (base:=base) 3 F46 C39 ⟨_,_,W3,b45,k45,m45⟩ C44 y_range y_tuple;have G46:=B3;have C46:Cl l.prog w K mg base _ _ _ _:=⟨_,_,G46,b46,k46,m46⟩
 have G47:=bQ9 (P:=l.prog) (w:=w) (mg:=mg) (base:=base) F47  C40 C43 C46 C39 y_tuple;have C47:Cl l.prog w K mg base _ _ _ _:=⟨_,_,G47,b47,k47,m47⟩
 have G48:=bP5 (P:=l.prog) (w:=w) (mg:=mg) (base:=base) F48   y_range;have C48:Cl l.prog w K mg base _ _ _ _:=⟨_,_,G48,b48,k48,m48⟩
 have G49:=bP1 (P:=l.prog) (w:=w) (mg:=mg) (base:=base) F49;have C49:Cl l.prog w K mg base _ _ _ _:=⟨_,_,G49,b49,k49,m49⟩
 have G50:=bM3 (P:=l.prog) (w:=w) (mg:=mg) (base:=base) F50  C49;have C50:Cl l.prog w K mg base _ _ _ _:=⟨_,_,G50,b50,k50,m50⟩
 have GT51:∀ n:Nat,bQ l.prog w K mg base dS (n+1) f51 _ ["_law_rows_here"] (xA n):=fun n=>by
  induction n with
  | zero=>exact sM
  | succ n ih=>exact bU2 (P:=l.prog) (w:=w) (mg:=mg) (base:=base) n F51 ⟨_,_,ih,b51,k51,m51⟩
 have G51:=GT51 4;have C51:Cl l.prog w K mg base _ _ _ _:=⟨_,_,G51,b51,k51,m51⟩
 have GT52:∀ n:Nat,bQ l.prog w K mg base dS (n+1) f52 _ ["_law_term_here"] (aC6 n):=fun n=>by
  induction n with
  | zero=>exact sM
  | succ n ih=>exact bX1 (P:=l.prog) (w:=w) (mg:=mg) (base:=base) n F52 ⟨_,_,ih,b52,k52,m52⟩
 have G52:=GT52 7;have C52:Cl l.prog w K mg base _ _ _ _:=⟨_,_,G52,b52,k52,m52⟩
 have G53:=bR1 (P:=l.prog) (w:=w) (mg:=mg) (base:=base) F53  C51 C52 y_range y_sorted y_len y_set;have C53:Cl l.prog w K mg base _ _ _ _:=⟨_,_,G53,b53,k53,m53⟩
 have G54:=bR8 (P:=l.prog) (w:=w) (mg:=mg) (base:=base) F54;have C54:Cl l.prog w K mg base _ _ _ _:=⟨_,_,G54,b54,k54,m54⟩
 have GT55:∀ n:Nat,bQ l.prog w K mg base dS (n+1) f55 _ ["_law_steep_here","_law_k"] (aE9 n):=fun n=>by
  induction n with
  | zero=>exact sM
  | succ n ih=>exact bN2 (P:=l.prog) (w:=w) (mg:=mg) (base:=base) n F55 ⟨_,_,ih,b55,k55,m55⟩ C48
 have G55:=GT55 2;have C55:Cl l.prog w K mg base _ _ _ _:=⟨_,_,G55,b55,k55,m55⟩
 have G56:=bQ5 (P:=l.prog) (w:=w) (mg:=mg) (base:=base) F56  C55 C48 C50 y_max y_min;have C56:Cl l.prog w K mg base _ _ _ _:=⟨_,_,G56,b56,k56,m56⟩
 have G57:=bN6 (P:=l.prog) (w:=w) (mg:=mg) (base:=base) F57  C50;have C57:Cl l.prog w K mg base _ _ _ _:=⟨_,_,G57,b57,k57,m57⟩
 have G58:=bN1 (P:=l.prog) (w:=w) (mg:=mg) (base:=base) F58  C50;have C58:Cl l.prog w K mg base _ _ _ _:=⟨_,_,G58,b58,k58,m58⟩
 have G59:=bT5 (P:=l.prog) (w:=w) (mg:=mg) (base:=base) F59;have C59:Cl l.prog w K mg base _ _ _ _:=⟨_,_,G59,b59,k59,m59⟩
 have G60:=bO4 (P:=l.prog) (w:=w) (mg:=mg) (base:=base) F60  C59 y_int;have C60:Cl l.prog w K mg base _ _ _ _:=⟨_,_,G60,b60,k60,m60⟩
 have G61:=bO2 (P:=l.prog) (w:=w) (mg:=mg) (base:=base) F61  C56 C57 C58 C60;have C61:Cl l.prog w K mg base _ _ _ _:=⟨_,_,G61,b61,k61,m61⟩
 have G62:=bP3 (P:=l.prog) (w:=w) (mg:=mg) (base:=base) F62  C54 y_isinstance y_tuple y_int y_len;have C62:Cl l.prog w K mg base _ _ _ _:=⟨_,_,G62,b62,k62,m62⟩
 have G63:=bN5 (P:=l.prog) (w:=w) (mg:=mg) (base:=base) F63   y_isinstance y_tuple y_list y_int y_len;have C63:Cl l.prog w K mg base _ _ _ _:=⟨_,_,G63,b63,k63,m63⟩
 have GT64:∀ n:Nat,bQ l.prog w K mg base dS (n+7) f64 _ ["_law_part","_law_place","_law_names_here","_law_kind"] (aE1 K n):=fun n=>by
  induction n with
  | zero=>exact sM
  | succ n ih=>exact bT9 (P:=l.prog) (w:=w) (mg:=mg) (base:=base) n F64 C63 C62 C61 ⟨_,_,ih,b64,k64,m64⟩ y_range y_len
 have G64:=GT64 8;have C64:Cl l.prog w K mg base _ _ _ _:=⟨_,_,G64,b64,k64,m64⟩
 have G65:=bV5 (P:=l.prog) (w:=w) (mg:=mg) (base:=base) F65   y_repr;have C65:Cl l.prog w K mg base _ _ _ _:=⟨_,_,G65,b65,k65,m65⟩
 have G66:=bU8 (P:=l.prog) (w:=w) (mg:=mg) (base:=base) F66 mT hT mF hF C53 C65 C51 C37 C60 C64 C36 C30 C56 y_range y_len;have C66:Cl l.prog w K mg base _ _ _ _:=⟨_,_,G66,b66,k66,m66⟩
 have G67:=bN8 (P:=l.prog) (w:=w) (mg:=mg) (base:=base) F67  C40 C39 C43 y_range y_tuple y_min;have C67:Cl l.prog w K mg base _ _ _ _:=⟨_,_,G67,b67,k67,m67⟩
 exact bR5 F68 C38 C47 C67 C66
theorem walk {l:W.OpenLaw}{q:Program}{loose:List Str}{XP:(Str->Option Value)->Heap->Prop}{YP:World->Heap->Prop}{d:DefRec}{K:Params->W.Frag}(hn:l.most=some 63) (hdf:d.params.defaults=[])
  (hY:∀ (w:World) (h:Heap),YP w h->(K w.params).In h)
  (F:∀ (w:World) (mg:Str->Option Value) (fa:Addr) (h:Heap),(K w.params).In h->h.Ns mainGlobals mg->mg d.name=some (.ref fa) ->
   ∃ fd:FuncData,(∀ (s:Shared) (u:Value),BindsTo s fd ⟨[u],[]⟩ [("_law_script",u)])/\∀ base:Heap,(K w.params).In base->base.Ns mainGlobals mg->bQ l.prog w (K w.params) mg base dS 19 fa fd ["_law_script"] (aA3 (K w.params))) :
  W.WalkO q loose XP YP l.row.toRowW d [] (fun f vs=>PySem.call f vs) :=
 L2.walk_of (n:=63) (k:=19) (x:="_law_script") (CX:=fun _=>dS) (sp:=fun w=>aA3 (K w.params)) hn (by decide) hdf ⟨rfl,by decide,by decide,rfl⟩ hY F (fun _ _ a ns hl _ hS=>⟨a,ns,rfl,hS,hl,fun _=>rfl⟩) fun _ _ _ _ _ z=>z
end Mine
open PySem PySem.W PyProof.Rows
namespace PySem.W.Fast
def tw10022252246459441296:=0
def tw10029957737558087585:=0
def tw10094087288048412124:=0
def tw10097375703698205395:=0
def tw10226848858279369072:=0
def tw10245432191519254594:=0
def tw10266441816302084199:=0
def tw10289989057396070875:=0
def tw10331502330445710502:=0
def tw10350405971871037361:=0
def tw103988705711174324:=0
def tw10403695250330470034:=0
def tw10499774493590656723:=0
def tw10499848832911594661:=0
def tw10501226038411597206:=0
def tw10545404092364335885:=0
def tw10615988103589275937:=0
def tw10619281352039838626:=0
def tw10701349889621553415:=0
def tw10701797980143118466:=0
def tw10708015933122216623:=0
def tw1071829980049208006:=0
def tw10723537898951143651:=0
def tw10748002752678831126:=0
def tw10781419264526947902:=0
def tw10793563602476231029:=0
def tw10826532397980150651:=0
def tw10869791554504228046:=0
def tw11024032963392738158:=0
def tw11078060907281898732:=0
def tw11086784226925663950:=0
def tw1108947694988086106:=0
def tw11099177523634836463:=0
def tw11121269632128686583:=0
def tw11158458273274389220:=0
def tw11264140881522113485:=0
def tw11276630465637202524:=0
def tw11306473798720118027:=0
def tw11356540556804383257:=0
def tw1146455178715356764:=0
def tw11489570652106338251:=0
def tw11491119657835336199:=0
def tw11498408588364605942:=0
def tw11525540274246985292:=0
def tw11531621145097268638:=0
def tw11536164287719372876:=0
def tw11613474938467941483:=0
def tw11704063344152564889:=0
def tw11711522493295864671:=0
def tw11720673529018237959:=0
def tw11722336864577521333:=0
def tw11736259060720557815:=0
def tw11763685449787351793:=0
def tw11826637537191031220:=0
def tw11873124193255560188:=0
def tw12085263360422345734:=0
def tw1211207227949609898:=0
def tw12130270558766846657:=0
def tw12164332219478109260:=0
def tw12194598598635618089:=0
def tw12247605378938705119:=0
def tw12325361489436476151:=0
def tw12411918539630803592:=0
def tw12463217062487933266:=0
def tw12501652773204477484:=0
def tw12574543447829366494:=0
def tw12679087888610292807:=0
def tw12879419145876588545:=0
def tw12912901467650576730:=0
def tw12932333752288957649:=0
def tw12981186706529512976:=0
def tw12983837534966848:=0
def tw13049268201152800522:=0
def tw13089554908258535857:=0
def tw13121987598963038897:=0
def tw1316846740793891370:=0
def tw13208472333789130447:=0
def tw13215922860749153427:=0
def tw13332518374815688302:=0
def tw13351618168384796653:=0
def tw13375929497082982990:=0
def tw13422921269113794914:=0
def tw13430780099867172742:=0
def tw13437557421065963896:=0
def tw13567320169910820561:=0
def tw13630271276233422528:=0
def tw1364016823902711323:=0
def tw13640313667101324518:=0
def tw13668702451787010102:=0
def tw13777749408823609356:=0
def tw1383305582684610529:=0
def tw13912915423199744026:=0
def tw13940698243715423359:=0
def tw13944650929831029890:=0
def tw1397056268622631720:=0
def tw14001313002280637984:=0
def tw14066478959968253921:=0
def tw14090784424639582807:=0
def tw14221501836128581200:=0
def tw1423212950926011181:=0
def tw14248754465020742828:=0
def tw14260279674033724914:=0
def tw14299019472848000650:=0
def tw14299330403680687546:=0
def tw14307738755318175353:=0
def tw14379820067308379009:=0
def tw14383834359358673858:=0
def tw1438987903947426735:=0
def tw14390348957806907007:=0
def tw14414218906737680450:=0
def tw14417980903290413204:=0
def tw14492929063441635690:=0
def tw14619692368549002190:=0
def tw14628828045530617834:=0
def tw14663224740826414054:=0
def tw14673878018412718217:=0
def tw14780582095299673458:=0
def tw14896391934283567500:=0
def tw14897145874531671702:=0
def tw14897835001084707074:=0
def tw14936257914782354089:=0
def tw15080717782692244592:=0
def tw15199008077734705662:=0
def tw15202628823332609496:=0
def tw15258838707437057656:=0
def tw15281446643333136561:=0
def tw15365125679653907622:=0
def tw15368970751295031536:=0
def tw15512622938292955129:=0
def tw15582245313753738356:=0
def tw15619027622660359826:=0
def tw15620845389965677380:=0
def tw15643509380021460148:=0
def tw15691981323170162124:=0
def tw15733994989208215846:=0
def tw15764222871266313787:=0
def tw15774463559596983406:=0
def tw15805052116167681013:=0
def tw15828864921291800931:=0
def tw15832553426837481125:=0
def tw15860027724589906073:=0
def tw15863554487545559930:=0
def tw15892896864998119980:=0
def tw15930239947099961700:=0
def tw15968135645309021972:=0
def tw15981700905377304000:=0
def tw15988180937747468317:=0
def tw16075828418067890241:=0
def tw16110224546315551036:=0
def tw16118944583620166155:=0
def tw16145263204806807575:=0
def tw16174154365098852542:=0
def tw16183574610494365249:=0
def tw1632005282407637353:=0
def tw16323315178250243000:=0
def tw16386100886813401277:=0
def tw16386740429287781562:=0
def tw16393152728258158140:=0
def tw16413688032886667610:=0
def tw16431081986008532978:=0
def tw16455455377526148019:=0
def tw16505576663200626064:=0
def tw1657523336310705322:=0
def tw16638234168001087251:=0
def tw16657454431476594504:=0
def tw16660288389611742826:=0
def tw1670652438727886366:=0
def tw16709733771085418686:=0
def tw1678973007022532455:=0
def tw16813599492496681004:=0
def tw16880284895721250814:=0
def tw16886568217581867075:=0
def tw16925732420092930011:=0
def tw17004761147760158518:=0
def tw17062109047988391870:=0
def tw17082577391790664604:=0
def tw17089745739264010931:=0
def tw17103533342400535284:=0
def tw17106270874992519660:=0
def tw17174975713662308456:=0
def tw17250905954193995810:=0
def tw1725689813741132801:=0
def tw1725779681718256157:=0
def tw1726227582940474510:=0
def tw17271385567120987010:=0
def tw17331741057780208849:=0
def tw17353881941737721196:=0
def tw17413470856807232085:=0
def tw17504522437319745171:=0
def tw17527828892562354835:=0
def tw17572249567031651555:=0
def tw17610401246516326337:=0
def tw17621941761961912433:=0
def tw17642906702097558748:=0
def tw17655608604857435065:=0
def tw17769014573060426693:=0
def tw17794737430098609032:=0
def tw17949742359868859279:=0
def tw17985917004950338842:=0
def tw18038623433876720115:=0
def tw18137873633546887469:=0
def tw18208039691982283784:=0
def tw18210482999659073003:=0
def tw18221484903606798285:=0
def tw18227491441284178703:=0
def tw18262591279697440327:=0
def tw18311145253248770074:=0
def tw1832127536597783610:=0
def tw18371084910099902143:=0
def tw18371223952344505702:=0
def tw18398813656766833159:=0
def tw1882481643617282498:=0
def tw1935071662641055490:=0
def tw1969585921080723745:=0
def tw198656048992298214:=0
def tw2050213039279921416:=0
def tw206898773322054752:=0
def tw2083213432148827804:=0
def tw2102618427559971783:=0
def tw2127034494070061823:=0
def tw2135048652688760133:=0
def tw2140051477671305656:=0
def tw2150556178678470201:=0
def tw2153287911161712525:=0
def tw2187864841199292474:=0
def tw2203401800599636409:=0
def tw2238887500998009201:=0
def tw234935085427797288:=0
def tw2364758819941179705:=0
def tw2446274631281592795:=0
def tw2449877589529304379:=0
def tw2477746369560528793:=0
def tw2486887594978336023:=0
def tw2504531929955472806:=0
def tw2512369480478178255:=0
def tw2528828256862907056:=0
def tw2589542385109742557:=0
def tw2593591360115271268:=0
def tw2601334433505430792:=0
def tw2653955461909801763:=0
def tw2657216003059460371:=0
def tw2668707063876316055:=0
def tw2697863708197671796:=0
def tw2785307532369600172:=0
def tw2788900274362410001:=0
def tw2818997895699354911:=0
def tw2825114372129497605:=0
def tw2898825390504822066:=0
def tw293039535582205376:=0
def tw2941118902448789627:=0
def tw2975548963195366443:=0
def tw2987574658442934573:=0
def tw3007320389168697261:=0
def tw3074790097020398677:=0
def tw3128282387035653444:=0
def tw3171963046106910112:=0
def tw3189275692032431751:=0
def tw3303861758172960544:=0
def tw3348045907442607120:=0
def tw337710949258553999:=0
def tw3494025328395974753:=0
def tw3517228745505740627:=0
def tw3538109326361447870:=0
def tw3539640717188098242:=0
def tw3712659267113124268:=0
def tw3730624480408443066:=0
def tw3850849024464980961:=0
def tw387124945631206745:=0
def tw3899571999103522279:=0
def tw3935161277201580083:=0
def tw3980741260257655809:=0
def tw4046879778814761792:=0
def tw4087000888656337610:=0
def tw4184022598490916952:=0
def tw4206358118225611459:=0
def tw4307947657339725096:=0
def tw4413073674677316953:=0
def tw4465216289964972896:=0
def tw4589446956341427136:=0
def tw4664693138224605449:=0
def tw468558248002492122:=0
def tw4718337712550379657:=0
def tw4830472061385638185:=0
def tw4832315254273014977:=0
def tw484110702263251580:=0
def tw4853618365574398892:=0
def tw4861744212832806555:=0
def tw4936112869090613911:=0
def tw4962050344127442465:=0
def tw498658708464120737:=0
def tw4988594971540746185:=0
def tw5043506771968309620:=0
def tw511840896735476684:=0
def tw5142804525608631677:=0
def tw5170771408081830373:=0
def tw5331445978457740200:=0
def tw5353542671110151911:=0
def tw53570691040097409:=0
def tw5524867517004303686:=0
def tw5555432198181066959:=0
def tw5579114689263667282:=0
def tw5606465132611055285:=0
def tw5608327194163672967:=0
def tw5629782529089135592:=0
def tw5651452827860264649:=0
def tw5693572152172829316:=0
def tw5711133073395746800:=0
def tw5757083063384943031:=0
def tw5763470702224829623:=0
def tw5784472383105302387:=0
def tw5917046292177552466:=0
def tw600762221958208740:=0
def tw6008504107848521031:=0
def tw6009702856338585788:=0
def tw6032453118365495842:=0
def tw6049270323003994573:=0
def tw6055836159512847840:=0
def tw6062219520677884320:=0
def tw6077795318650423302:=0
def tw6126505633937405048:=0
def tw6158013745198857546:=0
def tw6162971237407847199:=0
def tw6302866905207157407:=0
def tw634871317099182109:=0
def tw6407867717498709138:=0
def tw6451994015004165073:=0
def tw6651953226709356867:=0
def tw6670728011087541680:=0
def tw6695361333246944904:=0
def tw6719805556079135853:=0
def tw6795438123835118507:=0
def tw6840824650310948486:=0
def tw6880124683454796592:=0
def tw6938971787356019776:=0
def tw7080398844494746481:=0
def tw7088148691654878296:=0
def tw7123743935147479618:=0
def tw7143719498029131660:=0
def tw7144829514557276295:=0
def tw7161946502326281739:=0
def tw7206709441165267921:=0
def tw7208314291365608607:=0
def tw7233682599214669252:=0
def tw7290448436487314770:=0
def tw730203565551916097:=0
def tw732156009805433636:=0
def tw7385550239176647108:=0
def tw7399811852622290808:=0
def tw748654550532153020:=0
def tw7537161498860946680:=0
def tw7571418691662033367:=0
def tw7608825681220576604:=0
def tw7630463806149427682:=0
def tw7636745612791625861:=0
def tw7657089091522841872:=0
def tw7688685459915469127:=0
def tw7706149586843246509:=0
def tw7714805062275231646:=0
def tw7755226832528651655:=0
def tw7781096235591843800:=0
def tw7794401758893196301:=0
def tw7831111790541724907:=0
def tw7881492205369505742:=0
def tw8141180985249244750:=0
def tw8148128132367004065:=0
def tw827841468430585117:=0
def tw832004639664497925:=0
def tw832338980672211560:=0
def tw8332646247452148288:=0
def tw8414443396412182242:=0
def tw8460953594054370928:=0
def tw8475656097056318320:=0
def tw8477094940757791764:=0
def tw849024820602444665:=0
def tw8616419836337900228:=0
def tw8633693119750207690:=0
def tw8665056820639942217:=0
def tw871182877208843982:=0
def tw8747388899720971648:=0
def tw8800956004826301156:=0
def tw8801793530131801005:=0
def tw8875957814520343870:=0
def tw8900926332281476144:=0
def tw8924263624153143145:=0
def tw893865283164136257:=0
def tw8962574624817132220:=0
def tw9008190771592887916:=0
def tw9011215008660412849:=0
def tw9081168950978760913:=0
def tw9234997915827131501:=0
def tw9255045345521637315:=0
def tw9266237363415140304:=0
def tw9340862734015445623:=0
def tw9351058872779454984:=0
def tw9370379425959897399:=0
def tw9416970238808516955:=0
def tw9458495060523731649:=0
def tw9500644114263117151:=0
def tw9515687065667459790:=0
def tw9532608989910705826:=0
def tw9650322939365292487:=0
def tw9699793839110194995:=0
def tw9734256039229504251:=0
def tw9822599019843200286:=0
def tw9914884744174082265:=0
def tw9928856551146863214:=0
def tw9947007491056257837:=0
end PySem.W.Fast
set_option maxRecDepth 100000 in
set_option maxHeartbeats 0 in
theorem PySem.Challenge.cw_pairedthrows_k37_prices_holds : PySem.Challenge.rw_pairedthrows_k37_prices.Holds := by
  w_on;o_law;k_head;(case hw=>w_witness2)
  k_fill
  refine Mine.walk (l:=PySem.Challenge.rw_pairedthrows_k37_prices) rfl rfl (fun w h Y=>PySem.W.kIn_of Y) ?F
  case F =>
    intro w mg fa h KX G hmg
    refine' Mine.all_mk KX G hmg ?a1 ?l1 ?c1 ?k1 ?a2 ?l2 ?c2 ?k2 ?a3 ?l3 ?c3 ?k3 ?a4 ?l4 ?c4 ?k4 ?a5 ?l5 ?c5 ?k5 ?a6 ?l6 ?c6 ?k6 ?a7 ?l7 ?c7 ?k7 ?a8 ?l8 ?c8 ?k8 ?a9 ?l9 ?c9 ?k9 ?a10 ?l10 ?c10 ?k10 ?a11 ?l11 ?c11 ?k11 ?a12 ?l12 ?c12 ?k12 ?a13 ?l13 ?c13 ?k13 ?a14 ?l14 ?c14 ?k14 ?a15 ?l15 ?c15 ?k15 ?a16 ?l16 ?c16 ?k16 ?a17 ?l17 ?c17 ?k17 ?a18 ?l18 ?c18 ?k18 ?a19 ?l19 ?c19 ?k19 ?a20 ?l20 ?c20 ?k20 ?a21 ?l21 ?c21 ?k21 ?a22 ?l22 ?c22 ?k22 ?a23 ?l23 ?c23 ?k23 ?a24 ?l24 ?c24 ?k24 ?a25 ?l25 ?c25 ?k25 ?a26 ?l26 ?c26 ?k26 ?a27 ?l27 ?c27 ?k27 ?a28 ?l28 ?c28 ?k28 ?a29 ?l29 ?c29 ?k29 ?a30 ?l30 ?c30 ?k30 ?a31 ?l31 ?c31 ?k31 ?a32 ?l32 ?c32 ?k32 ?a33 ?l33 ?c33 ?k33 ?a34 ?l34 ?c34 ?k34 ?a35 ?l35 ?c35 ?k35 ?a36 ?l36 ?c36 ?k36 ?a37 ?l37 ?c37 ?k37 ?a38 ?l38 ?c38 ?k38 ?a39 ?l39 ?c39 ?k39 ?a40 ?l40 ?c40 ?k40 ?a41 ?l41 ?c41 ?k41 ?a42 ?l42 ?c42 ?k42 ?a43 ?l43 ?c43 ?k43 ?a44 ?l44 ?c44 ?k44 ?a45 ?l45 ?c45 ?k45 ?a46 ?l46 ?c46 ?k46 ?a47 ?l47 ?c47 ?k47 ?a48 ?l48 ?c48 ?k48 ?a49 ?l49 ?c49 ?k49 ?a50 ?l50 ?c50 ?k50 ?a51 ?l51 ?c51 ?k51 ?a52 ?l52 ?c52 ?k52 ?a53 ?l53 ?c53 ?k53 ?a54 ?l54 ?c54 ?k54 ?a55 ?l55 ?c55 ?k55 ?a56 ?l56 ?c56 ?k56 ?a57 ?l57 ?c57 ?k57 ?a58 ?l58 ?c58 ?k58 ?a59 ?l59 ?c59 ?k59 ?a60 ?l60 ?c60 ?k60 ?a61 ?l61 ?c61 ?k61 ?a62 ?l62 ?c62 ?k62 ?a63 ?l63 ?c63 ?k63 ?a64 ?l64 ?c64 ?k64 ?a65 ?l65 ?c65 ?k65 ?a66 ?l66 ?c66 ?k66 ?a67 ?l67 ?c67 ?k67 ?a68 ?l68 ?c68 ?k68 ?z_reversed ?z_isinstance ?z_str ?z_len ?z_list ?z_range ?z_zip ?z_tuple ?z_sorted ?z_max ?z_min ?z_int ?z_set ?z_repr ?qT ?uT ?vT ?qF ?uF ?vF ?uG ?vG ?uH ?vH
    case a1|l1|c1|k1|a2|l2|c2|k2|a3|l3|c3|k3|a4|l4|c4|k4|a5|l5|c5|k5|a6|l6|c6|k6|a7|l7|c7|k7|a8|l8|c8|k8|a9|l9|c9|k9|a10|l10|c10|k10|a11|l11|c11|k11|a12|l12|c12|k12|a13|l13|c13|k13|a14|l14|c14|k14|a15|l15|c15|k15|a16|l16|c16|k16|a17|l17|c17|k17|a18|l18|c18|k18|a19|l19|c19|k19|a20|l20|c20|k20|a21|l21|c21|k21|a22|l22|c22|k22|a23|l23|c23|k23|a24|l24|c24|k24|a25|l25|c25|k25|a26|l26|c26|k26|a27|l27|c27|k27|a28|l28|c28|k28|a29|l29|c29|k29|a30|l30|c30|k30|a31|l31|c31|k31|a32|l32|c32|k32|a33|l33|c33|k33|a34|l34|c34|k34|a35|l35|c35|k35|a36|l36|c36|k36|a37|l37|c37|k37|a38|l38|c38|k38|a39|l39|c39|k39|a40|l40|c40|k40|a41|l41|c41|k41|a42|l42|c42|k42|a43|l43|c43|k43|a44|l44|c44|k44|a45|l45|c45|k45|a46|l46|c46|k46|a47|l47|c47|k47|a48|l48|c48|k48|a49|l49|c49|k49|a50|l50|c50|k50|a51|l51|c51|k51|a52|l52|c52|k52|a53|l53|c53|k53|a54|l54|c54|k54|a55|l55|c55|k55|a56|l56|c56|k56|a57|l57|c57|k57|a58|l58|c58|k58|a59|l59|c59|k59|a60|l60|c60|k60|a61|l61|c61|k61|a62|l62|c62|k62|a63|l63|c63|k63|a64|l64|c64|k64|a65|l65|c65|k65|a66|l66|c66|k66|a67|l67|c67|k67|a68|l68|c68|k68|z_reversed|z_isinstance|z_str|z_len|z_list|z_range|z_zip|z_tuple|z_sorted|z_max|z_min|z_int|z_set|z_repr|qT|uT=>k_is
    case vT=>exact .cons ⟨_,rfl⟩ (.cons ⟨_,rfl⟩ (.cons ⟨_,rfl⟩ (.cons ⟨_,rfl⟩ .nil)))
    case qF|uF=>k_is
    case vF=>exact .cons rfl (.cons rfl .nil)
    case uG=>k_is
    case vG=>exact .cons ⟨_,rfl⟩ (.cons ⟨_,rfl⟩ .nil)
    case uH=>k_is
    case vH=>exact .cons ⟨_,rfl⟩ (.cons ⟨_,rfl⟩ .nil)
