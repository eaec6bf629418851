import PyProof.Rows.All
import Wide.All
import OpenK.AllK
import Wide.FinOn
import Lean
import PyProof.EqAt
import PyProof.EqKinds
import PyProof.TupleCall
import KE.KDictOf
import PyProof.AttrMissHeap
import KE.KSortTup
import PyProof.Rows.InDataRows
import KE.KRevSl
import PyProof.Rows.SetFrom
import PyProof.Rows.SortStr
import KE.KDictLaws
import PyProof.DictWalks
import PyProof.DictItems
import KE.KDictList
import KE.KPairComp
import PyProof.ExcClass3
import PyProof.StationsW
import PyProof.RulesTry
import PyProof.Rows.CatchOwn
import OpenK.KCall
import OpenK.KRaise
import PyProof.InstSpecial
import PyProof.AutoListH
import PyProof.Rows.CallKwBuiltin
import KE.KMinBuiltin
import PyProof.Cells
import PySem.Challenge.RW_pairedthrows_k41_tops_and_crowds
set_option Elab.async false
set_option linter.all false
set_option maxRecDepth 100000
open PySem renaming wpAny_bind->aa,wpAny_pure->am,wpAny_mono->bi,mem_of_lookup->du,wpAny_Call_Name_kw->fw,wpAny_passesOwn->gc,wpAny_holding->gf,wpAny_truthy_bool->gg,boot_len->gj,wpAny_newObj_type->gt,wpAny_loadPart_at->gu,wpAny_standAt->ic,wpAny_execs_nil->ik,wpAny_comprehension_free->iq,wpAny_tryCatch->iw,call_meets->jn,sizeLine_eq->jx,wpAny_newFunctionEnv_cells->kh,plainId_quiet->km,wpAny_execs_cons->kr,codeAny_mono->ku,noFill_tuple_add->lg,wpAny_list_append_plain->md,codeAny_builtin->mi,wpAny_updateSeq->mj,seqIndex_of->mq,codeAny_compStart_list->nc,wpAny_letGo->nj,wpAny_bindName->nq,codeAny_call_function->nr,wpAny_seqItems->oa,wpAny_loadName_local->oi,wpAny_call->oj,wpAny_pyIter_revIter->om,codeAny_call_builtin->on,seq_tuple_add->oq,wpAny_loadName_cell->ou,wpAny_isSubtype_exc->pd,tupleKind_room_in1->pp,concat_meets->pz,seqIndex_neg->qd,wpAny_assign_Name->qj,wpAny_pyIter_list->qm,wpAny_field->qy,wpAny_Name->rg,typeIs_int->rj
local macro_rules|`(tactic|omega)=>`(tactic|lia)
local macro_rules|`(def $i:declId $s:optDeclSig $v:declVal)=>`(noncomputable def $i:declId $s:optDeclSig $v:declVal)
set_option compiler.extract_closed false
noncomputable section
open List renaming length_map->ac,length_append->ap,mem_cons_of_mem->aq,size_toArray->au,mem_of_getElem?->ay,map_append->az,mem_append_right->bc,mem_cons_self->bg,getElem?_eq_getElem->bp,length_take->bq,take_length->br,getElem?_eq_some_iff->bu,mem_cons->bv,filter_cons_of_neg->bz,length_eq_zero_iff->cj,mem_singleton->cq,filter_cons_of_pos->cy,mem_filter->de,map_cons->df,mem_append->dj,append_nil->dm,flatMap_cons->dt,length_filter_le->dz,length_cons->ef,mem_append_left->er,getElem?_map->fe,length_range->fg,replicate_succ->fj,mem_map->fk,getD_eq_getElem?_getD->fm,not_mem_nil->fq,filter_append->fz,length_reverse->gk,any_cons->gl,mem_filterMap->gm,foldl_cons->gn,length_replicate->gw,getElem_mem->ia,lookup_cons->ib,filterMap_cons->ig,flatMap_append->ij,nodup_cons->im,forIn_cons->io,flatten_cons->iz,foldl_append->jb,getElem?_set_self->jd,eraseIdxIfInBounds_toArray->ji,getElem?_set_ne->jj,of_mem_zip->jl,length_nil->jm,mem_of_mem_take->jr,range_succ->ju,mem_range->jw,all_cons->ki,reverse_cons->ko,getElem?_zip_eq_some->kq,map_nil->ky,flatMap_nil->lv,forIn_nil->ny,replicate_succ'->oo,contains_cons->qg,take_sublist->qr,append_assoc->qt,nodup_append->qu,getElem_inj->qz,length_drop->rc
open Nat renaming le_refl->ae,lt_of_lt_of_le->ai,le_trans->aj,ne_of_lt->av,zero_le->bh,le_of_lt->cg,mul_le_mul->cv,lt_of_le_of_lt->cw,lt_succ_self->dh,lt_irrefl->di,sub_lt_sub_left->fi,ne_of_gt->fu,pow_le_pow_right->gi,le_succ_of_le->gv,lt_succ_of_lt->ja,le_succ->jf,not_lt->jo,mul_add->jy,mul_right_comm->kc,le_mul_of_pos_right->mf,mul_assoc->ot,pow_le_pow_left->oz,mul_comm->qe,pow_succ->qh,lt_succ_of_le->qw,pow_pos->qx
open PySem.Heap renaming get?_push_of_some->af,lt_size->al,get?_push_size->bn,get?_update_ne->cu,get?_update_other->dq,get?_update_self->dy,size_push->iu,get?_none_of_le->oh
open Bool renaming false_ne_true->ba,and_eq_true->gz,eq_iff_iff->jk
open PySem.F renaming plainAttrs_list->bb,slot_list_append->cm,type_list_append->cp,slot_list_extend->eg,type_list_extend->eo,plain_max_loop->ft,args_tuple_add_2->ip,entry_tuple_add->iy,slot_tuple_add->je,excBase_ValueError->kl,entry_max_loop->lu,slot_list_pop->oe,type_list_pop->og,entry_list_pop->re
open Option.some renaming inj->ci
open PyProof.Rows renaming boot_tuple->cz,boot_isinstance->eu,callWith_type1->fv,boot_min->ge,boot_int->gx,boot_max->gy,boot_list->jg,assignInOrder_cons->jz,intBits_le->me,subscriptTail_builtinR->mv,same_refl->nk,assignInOrder_nil->qk,Subscript_->rh
open Sum.inr renaming inj->dg
open PySem.W renaming kia_one->dk,looks_findIn->jq,cellsFrom_some->mo,looks_clsIn->pe,kitx_list->qo,kitx_dict->qp
open True renaming intro->dw
open Int renaming emod_lt_of_pos->gb,emod_nonneg->gr,lt_of_le_of_lt->ir,mul_le_mul_of_nonneg_right->jp,zero_add->jt,fdiv_eq_ediv_of_nonneg->kj,natCast_succ->lz,natCast_ediv->ma,ediv_nonneg->mh,natCast_mul->ml,le_refl->ng,mul_ediv_add_emod->nv,natAbs_of_nonneg->ol,toNat_of_nonneg->oy
open PySem.PassesOwn renaming never->gp,leaving->jc
open PySem.Obj renaming data_mapFields->gq,isFreed_of_fields->jh
open Array renaming getElem?_eq_some_iff->ie,getElem?_toList->nt,length_toList->ow,find?_toList->pi
open PySem.BindsTo renaming of_defaults->ii
open PySem.Around renaming under_plainId->js
open Or renaming inl->ka,inr->nu
open PySem.Paired renaming length->ke
open PySem.Calls renaming Name_function_global->kg,callWith_builtin->mw,spliced_cons->pj,spliced_nil->qq
open Option renaming isSome_iff_exists->kx,bind_some->rf
open PyProof renaming noPylong_of_log2->lj
open Nat.succ renaming inj->lq
open PySem.SeqAt.EqAt renaming int_str->pf,str_int->ph
open PySem.Code renaming quiet_builtin->qf
open PySem.Heap.Ns1 renaming of_empty->qv
namespace L2
theorem Rq0(_:True:=by rfl):True:=trivial
theorem Rq1(_:True:=by decide):True:=trivial
theorem Rq2(_:True:=by first | exact .inl rfl | exact .inr rfl | assumption):True:=trivial
theorem Rq3(_:True:=by intro _;rfl):True:=trivial
theorem Rq4(_:True:=by intros;rfl):True:=trivial
theorem Rq5(_:True:=by refine ⟨rfl,rfl,rfl,?_,rfl,?_,?_⟩ <;> decide +kernel):True:=trivial
theorem Rq6(_:True:=by intro _ _ _ _ h;(repeat obtain ⟨_,h⟩:=h);subst_vars;rfl):True:=trivial
theorem Rq7(_:True:=by first | decide | omega):True:=trivial
theorem Rq8(_:True:=by intros;exact ⟨_,rfl,fun _=>rfl⟩):True:=trivial
theorem Rq9(_:True:=by first | exact ka rfl | exact nu rfl):True:=trivial
theorem Rq10(_:True:=by exact fun _ _=>rfl):True:=trivial
theorem Rq11(_:True:=by first | exact xT _ | rfl):True:=trivial
end L2
namespace L2
open PySem PySem.Spec PyProof.Rows
def ah:=@decide_eq_true
def ao:=@of_decide_eq_true
def ar:=@if_neg
def bj:=@if_pos
def bo:=@decide_eq_false
def ee:=@congrArg
def jv:=@beq_eq_false_iff_ne
end L2
namespace L2
open PySem PySem.Spec PyProof.Rows
abbrev Key:=Sum Int Str
def mF:Key->Value->Bool
 |.inl k,v=>Value.isInt k v
 |.inr x,v=>Value.isStrOf x v
def aW5 (w:World):Key->Int
 |.inl k=>hashInt k
 |.inr x=>hashStr w x
theorem bW:∀ {k:Key}{v:Value},mF k v=true->(∃ i t,k=Sum.inl i/\v=Value.int i t)\/(∃ x t,k=Sum.inr x/\v=Value.str x t)
 |.inl i,v,h=>by
  obtain ⟨t,e⟩:=Value.isInt_shape (k:=i) (v:=v) h
  exact .inl ⟨i,t,rfl,e⟩
 |.inr x,v,h=>by
  obtain ⟨t,e⟩:=Value.isStrOf_shape (x:=x) (v:=v) h
  exact .inr ⟨x,t,rfl,e⟩
theorem tT (i:Int) (t:Tok):mF (.inl i) (.int i t)=true:=by simp [mF,Value.isInt]
theorem uH (x:Str) (t:Tok):mF (.inr x) (.str x t)=true:=by simp [mF,Value.isStrOf]
theorem aE1 (a b:Int):decide ((Sum.inl a:Key)=Sum.inl b)=(a == b):=by
 by_cases e:a=b
 ·subst e;simp
 ·have h:¬ (Sum.inl a:Key)=Sum.inl b:=fun q=>e (Sum.inl.inj q)
  rw [bo h]
  exact (jv.mpr e).symm
theorem aI9 (a b:Str):decide ((Sum.inr a:Key)=Sum.inr b)=decide (a=b):=by
 by_cases e:a=b
 ·subst e;simp
 ·have h:¬ (Sum.inr a:Key)=Sum.inr b:=fun q=>e (dg q)
  rw [bo h,bo e]
theorem aD4 (a:Int) (b:Str):decide ((Sum.inl a:Key)=Sum.inr b)=false:=bo (fun q=>nomatch q)
theorem aF6 (a:Str) (b:Int):decide ((Sum.inr a:Key)=Sum.inl b)=false:=bo (fun q=>nomatch q)
def bY (prog:Program) (w:World):PySem.KeyKind prog w Key where
 is:=mF
 hash:=aW5 w
 inj:=fun v a b ha hb=>by
  rcases bW ha with ⟨i,t,rfl,rfl⟩ | ⟨x,t,rfl,rfl⟩
  ·rcases bW hb with ⟨j,u,rfl,e⟩ | ⟨y,u,rfl,e⟩
   ·injection e with e1 _;rw [e1]
   ·exact nomatch e
  ·rcases bW hb with ⟨j,u,rfl,e⟩ | ⟨y,u,rfl,e⟩
   ·exact nomatch e
   ·injection e with e1 _;rw [e1]
 byValue:=fun k v h=>by
  rcases bW h with ⟨i,t,rfl,rfl⟩ | ⟨x,t,rfl,rfl⟩ <;> rfl
 pyHash:=fun hv h=>by
  rcases bW hv with ⟨i,t,rfl,rfl⟩ | ⟨x,t,rfl,rfl⟩
  ·exact wpAny_pyHash_int h
  ·exact wpAny_pyHash_str h
 eqBool:=fun hu hv h=>by
  rcases bW hu with ⟨i,t,rfl,rfl⟩ | ⟨x,t,rfl,rfl⟩
  ·rcases bW hv with ⟨j,u,rfl,rfl⟩ | ⟨y,u,rfl,rfl⟩
   ·rw [aE1] at h;exact wpAny_eqBool_int h
   ·rw [aD4] at h;exact pf i t y u _ _ _ _ h
  ·rcases bW hv with ⟨j,u,rfl,rfl⟩ | ⟨y,u,rfl,rfl⟩
   ·rw [aF6] at h;exact ph x t j u _ _ _ _ h
   ·rw [aI9] at h;exact wpAny_eqBool_str h
 «strs» :=fun k x t v h=>by
  rcases bW h with ⟨i,u,rfl,e⟩ | ⟨y,u,rfl,e⟩
  ·exact nomatch e
  ·injection e with e1 _
   subst e1
   cases v <;> rfl
theorem pO (prog:Program) (w:World) (i:Int) (t:Tok):(bY prog w).is (.inl i) (.int i t)=true:=tT i t
theorem oZ (prog:Program) (w:World) (x:Str) (t:Tok):(bY prog w).is (.inr x) (.str x t)=true:=uH x t
inductive V where
 |non | bl (b:Bool) | int (i:Int) | str (x:Str) | byt (b:Array UInt8) | flt (b:UInt64) | ref (a:Addr) | ty (n:String)
 deriving DecidableEq
def bG:V->Value->Prop
 |.non,u=>u=Value.none
 |.bl b,u=>u=Value.bool b
 |.int i,u=>∃ t,u=Value.int i t
 |.str x,u=>∃ t,u=Value.str x t
 |.byt b,u=>∃ t,u=Value.bytes b t
 |.flt b,u=>∃ t,u=Value.float b t
 |.ref a,u=>u=Value.ref a
 |.ty n,u=>u=Value.type n
abbrev aV:List V->List Value->Prop:=Paired bG
theorem aV.length {xs:List V}{us:List Value}(r:aV xs us):xs.length=us.length:=ke r
theorem aV.get:∀ {xs:List V}{us:List Value}{i:Nat}{x:V},aV xs us->xs[i]?=some x->∃ u,us[i]?=some u/\bG x u
 |_,_,_,_,.nil,e=>by simp at e
 |_,_,0,_,.cons r _,e=>by simp at e;subst e;exact ⟨_,rfl,r⟩
 |_,_,i+1,x,.cons _ t,e=>by
  obtain ⟨u,h1,h2⟩:=aV.get (i:=i) (x:=x) t (by simpa using e)
  exact ⟨u,by simpa using h1,h2⟩
theorem aV.set {x:V}{u:Value}(r:bG x u):∀ {xs:List V}{us:List Value}(i:Nat),aV xs us->aV (xs.set i x) (us.set i u)
 |_,_,_,.nil=> .nil
 |_,_,0,.cons _ t=> .cons r t
 |_,_,i+1,.cons q t=> .cons q (aV.set r i t)
theorem aV.append:∀ {xs ys:List V}{us ws:List Value},aV xs us->aV ys ws->aV (xs++ys) (us++ws)
 |_,_,_,_,.nil,s=>s
 |_,_,_,_,.cons r t,s=> .cons r (aV.append t s)
theorem aV.take:∀ {xs:List V}{us:List Value}(n:Nat),aV xs us->aV (xs.take n) (us.take n)
 |_,_,0,_=> .nil
 |_,_,_+1,.nil=> .nil
 |_,_,n+1,.cons r t=> .cons r (aV.take n t)
theorem aV.drop:∀ {xs:List V}{us:List Value}(n:Nat),aV xs us->aV (xs.drop n) (us.drop n)
 |_,_,0,r=>r
 |_,_,_+1,.nil=> .nil
 |_,_,n+1,.cons _ t=>aV.drop n t
def iE:Option V->Option Value->Prop
 |some v,some u=>bG v u
 |none,none=>True
 |_,_=>False
def KV {κ: Type}:List (κ×V)->List (κ×Value)->Prop:=Paired fun (p:κ×V) (q:κ×Value)=>p.1=q.1/\bG p.2 q.2
def kV:Key->V
 |.inl i=> .int i
 |.inr x=> .str x
inductive HO where
 |lst (xs:List V)
 |tup (xs:List V)
 |dK (kvs:List (Key×V)) | dT (kvs:List (List Key×V))
 |set (S:Int->Bool) (n:Nat)
 |ins (C dx:Addr) (fs:List (Str×V))
 |own (x:Addr)
 |xd (fs:List (Str×V))
 |met (f x:Addr)
 |rng (lo hi:Int)
 |frz (o:Obj) (u:HO)
 |tbl (ps:Array Value)
 |ext (φ: Heap->Prop)
abbrev Hp:=Addr->Option HO
def aN (H:Hp) (a:Addr) (o:HO):Hp:=fun b=>if b=a then some o else H b
theorem aD {H:Hp}{a:Addr}{o:HO}:aN H a o a=some o:=by unfold aN;rw [bj rfl]
theorem aH {H:Hp}{a b:Addr}{o:HO}(h:b≠a):aN H a o b=H b:=by unfold aN;rw [ar h]
theorem iW {H:Hp}{a b:Addr}{o u:HO}(h:H a=some o) (h':H b=some u) (d:o≠u):a≠b:=by
 intro e;subst e;rw [h] at h';exact d (ci h')
theorem aK {H:Hp}{a b:Addr}{o:HO}(h:H a=some o) (h':H b=none):a≠b:=by
 intro e;subst e;rw [h] at h';cases h'
def iO (h:Heap) (a:Addr) (its:Array Value):Prop:=∃ o,h.get? a=some o/\o.cls= .type "tuple"/\∃ n,o.data= .seq its n/\o.dict=none
theorem iO.is {h:Heap}{a:Addr}{its:Array Value}(x:iO h a its):IsTup h a its:=by obtain ⟨o,e,c,n,d,_⟩:=x;exact ⟨o,e,c,n,d⟩
theorem iO.new (h:Heap) (its:Array Value):iO (h.push { cls:= .type "tuple",data:= .seq its }) h.objs.size its:=⟨_,bn _ rfl,rfl,_,rfl,rfl⟩
section
variable (P:Program) (w:World)
def bL (H:Hp) (h:Heap) (a:Addr):HO->Prop
 |.lst xs=>xs.length<=sizeLine/\∃ (its:List Value) (n:Nat),aV xs its/\h.get? a=some { cls:= .type "list",data:= .seq its.toArray n }
 |.tup xs=>xs.length<=sizeLine/\∃ its:List Value,aV xs its/\iO h a its.toArray
 |.dK kvs=>kvs.length<=sizeLine/\(a == sysModules)=false/\∃ vs,KV kvs vs/\h.DictOf (bY P w) a vs
 |.dT kvs=>kvs.length<=sizeLine/\(a == sysModules)=false/\∃ xs:List (List Key×Addr×Value),
   Paired (fun (p:List Key×V) (q:List Key×Addr×Value)=>p.1=q.1/\H q.2.1=some (.tup (p.1.map kV))/\bG p.2 q.2.2) kvs xs /\
   ∃ o es ep,h.get? a=some o/\o.ExactDict/\o.data= .dict es ep/\es.toList=xs.map (entryOfKey (tupleKind (bY P w)))/\(xs.map (·.1)).Nodup
 |.set S n=>h.SetOf (intKind P w) a S n
 |.ins C dx fs=>H dx=some (.own a)/\fs.length<=1000/\dx≠a/\h.get? a=some (PySem.W.instObj C dx) /\
   ∃ mA,h.Ns1 dx mA/\(∀ f,iE (fs.lookup f) (mA f))/\PySem.Within mA (fs.map (·.1))
 |.own _=>∃ o,h.get? a=some o
 |.xd fs=>∃ mA,h.Ns1 a mA/\∀ f,iE (fs.lookup f) (mA f)
 |.rng lo hi=>∃ t u v,h.get? a=some { cls:= .type "range",data:= .fields #[.int lo t,.int hi u,.int 1 v] }
 |.frz o u=>h.get? a=some o/\bL H h a u
 |.tbl ps=>h.get? a=some { cls:= .none,data:= .fields ps }
 |.met f x=>h.get? a=some (PySem.W.methodObj (.ref f) (.ref x))
 |.ext φ=>φ h/\(∃ o,h.get? a=some o)/\∀ h1 h2:Heap,φ h1->(∀ o,h1.get? a=some o->h2.get? a=some o)->φ h2
def fF (H:Hp) (h:Heap):Prop:=∀ a o,H a=some o->bL P w H h a o
end
section
variable {P:Program}{w:World}{H H':Hp}{h h':Heap}{a:Addr}{o:HO}
theorem bL.lt (x:bL P w H h a o):a < h.objs.size:=by
 cases o with
 |lst xs=>obtain ⟨_,_,_,_,e⟩:=x;exact al e
 |tup xs=>obtain ⟨_,_,_,p⟩:=x;exact p.is.lt
 |dK kvs=>obtain ⟨_,_,_,_,o,_,_,e,_⟩:=x;exact al e
 |dT kvs=>obtain ⟨_,_,_,_,o,_,_,e,_⟩:=x;exact al e
 |set S n=>obtain ⟨o,_,_,_,e,_⟩:=x;exact al e
 |ins C dx fs=>obtain ⟨_,_,_,e,_⟩:=x;exact al e
 |own y=>obtain ⟨_,e⟩:=x;exact al e
 |xd fs=>obtain ⟨_,⟨_,_,_,e,_⟩,_⟩:=x;exact al e
 |rng lo hi=>obtain ⟨_,_,_,e⟩:=x;exact al e
 |frz ob u=>obtain ⟨e,_⟩:=x;exact al e
 |tbl ps=>exact al (show h.get? a=some _ from x)
 |met f y=>exact al (show h.get? a=some _ from x)
 |ext φ=>obtain ⟨_,⟨_,e⟩,_⟩:=x;exact al e
theorem Paired.mapP {α β: Type}{F G:α->β->Prop}:∀ {l₁:List α}{l₂:List β},Paired F l₁ l₂->(∀ a b,F a b->G a b)->Paired G l₁ l₂
 |_,_,.nil,_=> .nil
 |_,_,.cons r t,f=> .cons (f _ _ r) (Paired.mapP t f)
theorem bL.stay (x:bL P w H h a o) (k:∀ b u,(b=a\/H b=some (.own a))->h.get? b=some u->h'.get? b=some u)
  (ho:∀ b,H b=some (.own a)->H' b=some (.own a)) (ht:∀ b xs,H b=some (.tup xs)->H' b=some (.tup xs)):bL P w H' h' a o:=by
 induction o with
 |lst xs=>obtain ⟨z,its,n,r,e⟩:=x;exact ⟨z,its,n,r,k _ _ (.inl rfl) e⟩
 |tup xs=>obtain ⟨z,its,r,ob,e,c⟩:=x;exact ⟨z,its,r,ob,k _ _ (.inl rfl) e,c⟩
 |dK kvs=>obtain ⟨z,y,vs,r,ob,es,ep,e,c⟩:=x;exact ⟨z,y,vs,r,ob,es,ep,k _ _ (.inl rfl) e,c⟩
 |dT kvs =>
  obtain ⟨z,y,xs,r,ob,es,ep,e,c⟩:=x
  exact ⟨z,y,xs,Paired.mapP r fun p q z=>⟨z.1,ht _ _ z.2.1,z.2.2⟩,ob,es,ep,k _ _ (.inl rfl) e,c⟩
 |set S n=>obtain ⟨ob,es,ep,t,e,c⟩:=x;exact ⟨ob,es,ep,t,k _ _ (.inl rfl) e,c⟩
 |ins C dx fs =>
  obtain ⟨d,z,ne,e,mA,⟨od,es,ep,e2,c⟩,r⟩:=x
  exact ⟨ho _ d,z,ne,k _ _ (.inl rfl) e,mA,⟨od,es,ep,k _ _ (.inr d) e2,c⟩,r⟩
 |own y=>obtain ⟨ob,e⟩:=x;exact ⟨ob,k _ _ (.inl rfl) e⟩
 |xd fs=>obtain ⟨mA,⟨od,es,ep,e,c⟩,r⟩:=x;exact ⟨mA,⟨od,es,ep,k _ _ (.inl rfl) e,c⟩,r⟩
 |rng lo hi=>obtain ⟨t,u,v,e⟩:=x;exact ⟨t,u,v,k _ _ (.inl rfl) e⟩
 |frz ob u ih=>obtain ⟨e,q⟩:=x;exact ⟨k _ _ (.inl rfl) e,ih q⟩
 |tbl ps =>
  have e:h.get? a=some { cls:= .none,data:= .fields ps }:=x
  show h'.get? a=some { cls:= .none,data:= .fields ps }
  exact k a _ (.inl rfl) e
 |met f y =>
  have e:h.get? a=some (PySem.W.methodObj (.ref f) (.ref y)):=x
  show h'.get? a=some (PySem.W.methodObj (.ref f) (.ref y))
  exact k a _ (.inl rfl) e
 |ext φ=>obtain ⟨p,⟨o,e⟩,st⟩:=x;exact ⟨st _ _ p fun o q=>k _ _ (.inl rfl) q,⟨o,k _ _ (.inl rfl) e⟩,st⟩
theorem fF.lt (x:fF P w H h) (e:H a=some o):a < h.objs.size:=(x a o e).lt
theorem fF.fresh (x:fF P w H h) (e:h.objs.size<=a):H a=none:=by
 cases q:H a with
 |none=>rfl
 |some u=>exact absurd (ai (x.lt q) e) (di _)
theorem fF.kept (x:fF P w H h) (k:∀ b u,h.get? b=some u->h'.get? b=some u):fF P w H h':=fun a o e =>
 (x a o e).stay (fun b u _ q=>k b u q) (fun _ q=>q) fun _ _ q=>q
theorem fF.laid (x:fF P w H h) (k:∀ b u,h.get? b=some u->h'.get? b=some u) (hp:h.objs.size<=a) (new:bL P w (aN H a o) h' a o):fF P w (aN H a o) h':=fun b u e=>by
 have hn:=x.fresh hp
 by_cases hb:b=a
 ·subst hb;rw [aD] at e;cases e;exact new
 ·rw [aH hb] at e
  exact (x b u e).stay (fun c v _ q=>k c v q) (fun c q=>by rw [aH (aK q hn)];exact q) fun c xs q=>by rw [aH (aK q hn)];exact q
end
def Rd (H:Hp) (a:Addr) (u:HO):Prop:=H a=some u\/∃ o,H a=some (.frz o u)
theorem Rd.ok {P:Program}{w:World}{H:Hp}{h:Heap}{a:Addr}{u:HO}(r:Rd H a u) (x:fF P w H h):bL P w H h a u:=by
 rcases r with r | ⟨o,r⟩
 ·exact x a u r
 ·obtain ⟨_,q⟩:=x a _ r
  exact q
def Mut:Option HO->Prop
 |some (.lst _)=>True
 |some (.dK _)=>True
 |some (.dT _)=>True
 |some (.set _ _)=>True
 |some (.ins _ _ _)=>True
 |some (.ext _)=>True
 |_=>False
section
variable {P:Program}{w:World}{H:Hp}{h h':Heap}{x e:Addr}{o':HO}
theorem fF.write (ok:fF P w H h) (mu:Mut (H x)) (he:e=x\/H e=some (.own x)) (k:∀ b u,b≠e->h.get? b=some u->h'.get? b=some u) (heo:∃ u,h'.get? e=some u)
  (new:bL P w (aN H x o') h' x o'):fF P w (aN H x o') h':=fun b u q=>by
 have nown:∀ c y,H c=some (.own y)->c≠x:=fun c y r z=>by subst z;rw [r] at mu;exact mu
 have ntup:∀ c xs,H c=some (.tup xs)->c≠x:=fun c xs r z=>by subst z;rw [r] at mu;exact mu
 by_cases hb:b=x
 ·subst hb;rw [aD] at q;cases q;exact new
 ·rw [aH hb] at q
  by_cases hbe:b=e
  ·have q':H b=some (.own x):=by
    rcases he with z | z
    ·exact absurd (hbe.trans z) hb
    ·rw [hbe];exact z
   rw [q] at q';cases q'
   obtain ⟨v,hv⟩:=heo
   exact ⟨v,by rw [hbe];exact hv⟩
  ·refine (ok b u q).stay (fun c v hc r=>k c v ?_ r) (fun c r=>by rw [aH (nown c b r)];exact r) fun c xs r=>by rw [aH (ntup c xs r)];exact r
   rcases hc with rfl | hc
   ·exact hbe
   ·rintro rfl
    rcases he with z | z
    ·exact nown c b hc z
    ·rw [hc] at z;cases z;exact hb rfl
end
structure Un (fs ex:List Addr) (H H':Hp) (h h':Heap):Prop where
 keep:∀ b o,h.get? b=some o->H b=none->b∉fs->b∉ex->h'.get? b=some o
 slot:∀ b o,h.get? b=some o->H b=none->b∈fs->b∉ex->∃ sl,h'.get? b=some { o with slots:=sl }
 free:∀ b o,h.get? b=some o->H b=none->b∉ex->H' b=none
 there:∀ b o,h.get? b=some o->b∉ex->∃ o',h'.get? b=some o'
 tups:∀ b xs,H b=some (.tup xs)->H' b=some (.tup xs)
 frzs:∀ b o u,H b=some (.frz o u)->H' b=some (.frz o u)
 tbls:∀ b ps,H b=some (.tbl ps)->∃ more,H' b=some (.tbl (ps++more))
section
variable {fs fs' ex ex':List Addr}{H H1 H2:Hp}{h h1 h2 h':Heap}{a x e:Addr}{o:HO}
theorem Un.any (u:Un fs ex H H1 h h1) {b:Addr}{ob:Obj}(q:h.get? b=some ob) (n:H b=none) (hx:b∉ex):∃ sl,h1.get? b=some { ob with slots:=sl }:=by
 by_cases hb:b∈fs
 ·exact u.slot b ob q n hb hx
 ·exact ⟨ob.slots,u.keep b ob q n hb hx⟩
theorem Un.kept (k:∀ b u,h.get? b=some u->h'.get? b=some u):Un fs ex H H h h' :=
 ⟨fun b ob q _ _ _=>k b ob q,fun b ob q _ _ _=>⟨ob.slots,k b ob q⟩,fun _ _ _ n _=>n,fun b ob q _=>⟨ob,k b ob q⟩,fun _ _ q=>q,fun _ _ _ q=>q,fun _ ps q=>⟨#[],by rw [q];simp⟩⟩
theorem Un.refl:Un fs ex H H h h:=Un.kept fun _ _ q=>q
theorem Un.laid (k:∀ b u,h.get? b=some u->h'.get? b=some u) (hp:h.objs.size<=a) (hn:H a=none):Un fs ex H (aN H a o) h h' where
 keep:=fun b u q _ _ _=>k b u q
 slot:=fun b u q _ _ _=>⟨u.slots,k b u q⟩
 free:=fun b u q n _=>by rw [aH (av (ai (al q) hp))];exact n
 there:=fun b u q _=>⟨u,k b u q⟩
 tups:=fun b xs q=>by rw [aH (aK q hn)];exact q
 frzs:=fun b u xs q=>by rw [aH (aK q hn)];exact q
 tbls:=fun b ps q=>⟨#[],by rw [aH (aK q hn),q];simp⟩
theorem Un.write (mu:Mut (H x)) (he:e=x\/H e=some (.own x)) (k:∀ b u,b≠e->h.get? b=some u->h'.get? b=some u) (heo:∃ u,h'.get? e=some u):Un fs ex H (aN H x o) h h':=by
 have hx:∀ b,H b=none->b≠x:=fun b n z=>by subst z;rw [n] at mu;exact mu
 have hb:∀ b,H b=none->b≠e:=fun b n z=>by
  subst z
  rcases he with r | r
  ·exact hx b n r
  ·rw [n] at r;cases r
 have hm:∀ b u,H b=some u->¬ Mut (some u)->b≠x:=fun b u q nm z=>by subst z;rw [q] at mu;exact nm mu
 refine ⟨fun b u q n _ _=>k b u (hb b n) q,fun b u q n _ _=>⟨u.slots,k b u (hb b n) q⟩,fun b u q n _=>by rw [aH (hx b n)];exact n,fun b u q _=>?_,
  fun b xs q=>by rw [aH (hm b _ q fun z=>z)];exact q,fun b u xs q=>by rw [aH (hm b _ q fun z=>z)];exact q,fun b ps q=>⟨#[],by rw [aH (hm b _ q fun z=>z),q];simp⟩⟩
 by_cases hbe:b=e
 ·subst hbe;exact heo
 ·exact ⟨u,k b u hbe q⟩
end
def trk (h:Heap) (H:Hp):List Addr:=(List.range h.objs.size).filter fun a=>(H a).isSome
def nU (h:Heap) (H:Hp):Heap:=PySem.W.hideAll h (trk h H)
theorem tF (h:Heap) (H:Hp):(nU h H).objs.size=h.objs.size:=PySem.W.hideAll_size _ _
theorem vH {h:Heap}{H:Hp}{b:Addr}{o:Obj}(e:h.get? b=some o) (n:H b=none):(nU h H).get? b=some o :=
 PySem.W.hideAll_get _ e fun hm=>by
  have q:(H b).isSome=true:=(de.mp hm).2
  rw [n] at q;simp at q
theorem zO {h:Heap}{H:Hp}{b:Addr}{o:Obj}(e:(nU h H).get? b=some o):h.get? b=some o/\H b=none:=by
 have e':h.get? b=some o:=PySem.W.of_hideAll (trk h H) e
 refine ⟨e',?_⟩
 cases q:H b with
 |none=>rfl
 |some x =>
  have hm:b∈trk h H:=de.mpr ⟨jw.mpr (al e'),by simp [q]⟩
  have z:(nU h H).get? b=none:=PySem.W.hideAll_none (trk h H) hm
  rw [z] at e;cases e
def yP (g h:Heap) (L:Addr):List (Addr×Obj):=(List.range h.objs.size).filterMap fun a=>if a=L\/(g.get? a).isSome=true then none else (h.get? a).map fun o=>(a,o)
def rest (g h:Heap) (L d:Addr):List (Addr×Obj):=(yP g h L).filter fun p=>decide (p.1≠d)
structure Mod (K:PySem.W.Frag) (mg:Str->Option Value) (base:Heap):Prop where
 kin:K.In base
 glob:base.Ns mainGlobals mg
 blt:∃ mb,base.Ns builtinsNs mb/\∀ x:Str,x≠"__name__"->mb x=bootBuiltins x
 nolimit:base.NoLimit
structure Cx where
 prog:Program
 w:World
 K:PySem.W.Frag
 mg:Str->Option Value
 base:Heap
 A:Around
 N:List Str
 s₀:Shared
 H₀:Hp
 env:Env
 outer:List Env
 stack:List Env
 ex:List Addr
 fn:Str->Bool
 calm:Bool
 pn:List (Addr×Obj)
 xe:Value->Shared->Prop
def fE (l:List Env):List Addr:=l.filterMap (·.frame)
abbrev Cx.fs (X:Cx):List Addr:=fE X.outer
def Vis (sc:Scope) (x:Str):Prop:=sc.names.lookup x=some .local\/sc.names.lookup x=some .cell\/sc.names.lookup x=some .free
def zG (sc:Scope) (x:Str):Prop:=sc.names.lookup x=some .local\/sc.names.lookup x=some .cell
def aT5 (env:Env) (h:Heap) (m:Str->Option Value) (x:Str) (u:Value):Prop :=
 (env.kindOf x=some .local/\m x=some u)\/((env.kindOf x=some .cell\/env.kindOf x=some .free)/\∃ c,env.cells.lookup x=some c/\h.IsCell c (some u))
structure Cx.Ok (X:Cx):Prop where
 mod:Mod X.K X.mg X.base
 kind:X.env.scope.kind= .function
 glob:X.env.globals=mainGlobals
 blt:X.env.builtins=builtinsNs
 above:X.s₀.heap.objs.size<=X.env.locals
 inj:∀ x y c,X.env.cells.lookup x=some c->X.env.cells.lookup y=some c->x=y
 has:∀ x,(X.env.kindOf x=some .cell\/X.env.kindOf x=some .free)->∃ c,X.env.cells.lookup x=some c
 cab:∀ x c,X.fn x=true->X.env.cells.lookup x=some c->X.s₀.heap.objs.size<=c
 hd:X.calm=true->X.A.handled=none
 frames:X.A.frames=some X.stack
 stk:X.stack=X.outer\/(X.stack=X.env :: X.outer/\X.env.frame=some X.env.locals)
 exf:∀ b∈X.ex,b≠X.env.locals/\∀ x c,X.env.cells.lookup x=some c->c≠b
 bs:∀ b o,X.base.get? b=some o->X.s₀.heap.get? b=some o/\X.H₀ b=none
 bsz:X.base.objs.size<=X.s₀.heap.objs.size
 noex:∀ b o,X.base.get? b=some o->b∉X.ex
 exfs:∀ b∈X.ex,b∉X.fs
 funs:X.s₀.heap.FunFrames X.base X.outer
 frf:∀ b∈X.fs,X.H₀ b=none
structure aL (X:Cx) (pins:List (Addr×Obj)) (σ: List (Option V)) (H:Hp) (s:Shared):Prop where
 ok:X.Ok
 os:s.os=X.s₀.os
 bare:AllBare s.gens
 base:Un X.fs X.ex X.H₀ H X.s₀.heap s.heap
 loc:∃ m,s.heap.Ns X.env.locals m/\∀ (i:Nat) (x:Str) (v:V),X.N[i]?=some x->σ[i]?=some (some v)->Vis X.env.scope x->∃ u,bG v u/\aT5 X.env s.heap m x u
 cell:∀ x c,X.env.cells.lookup x=some c->∃ v,s.heap.IsCell c v
 free:H X.env.locals=none
 freeC:∀ x c,X.env.cells.lookup x=some c->H c=none
 pin:∀ p∈X.pn++pins,s.heap.get? p.1=some p.2/\H p.1=none/\p.1≠X.env.locals/\p.1∉X.fs/\∀ v,p.2.data≠ .cell v
 hok:fF X.prog X.w H s.heap
 len:σ.length=X.N.length
section
variable {X:Cx}{pins:List (Addr×Obj)}{σ: List (Option V)}{H H':Hp}{s:Shared}{h':Heap}
theorem Cx.Ok.nofr (ok:X.Ok) {b:Addr}{o:Obj}(e:X.base.get? b=some o):b∉X.fs:=fun hb=>by
 have:=(ok.funs.mem hb).1
 rw [e] at this;cases this
theorem aL.bs (I:aL X pins σ H s):∀ b o,X.base.get? b=some o->s.heap.get? b=some o/\H b=none:=fun b o e =>
 ⟨I.base.keep b o (I.ok.bs b o e).1 (I.ok.bs b o e).2 (I.ok.nofr e) (I.ok.noex b o e),I.base.free b o (I.ok.bs b o e).1 (I.ok.bs b o e).2 (I.ok.noex b o e)⟩
theorem aL.bk (I:aL X pins σ H s):∀ b o,X.base.get? b=some o->s.heap.get? b=some o:=fun b o e=>(I.bs b o e).1
theorem aL.mod (I:aL X pins σ H s):Mod X.K X.mg X.base:=I.ok.mod
theorem aL.kIn (I:aL X pins σ H s):X.K.In s.heap:=I.ok.mod.kin.keeps I.bk
theorem aL.lt (I:aL X pins σ H s):X.env.locals < s.heap.objs.size:=by obtain ⟨_,hn,_⟩:=I.loc;exact hn.lt
theorem aL.sz (I:aL X pins σ H s):X.s₀.heap.objs.size<=s.heap.objs.size:=aj I.ok.above (cg I.lt)
theorem aL.nofs (I:aL X pins σ H s) {a:Addr}(h:s.heap.objs.size<=a):a∉X.fs:=fun hb=>by
 obtain ⟨_,o,ho,_⟩:=I.ok.funs.mem hb
 exact absurd (ai (al ho) (aj I.sz h)) (di _)
theorem aL.cne (I:aL X pins σ H s):∀ x c,X.env.cells.lookup x=some c->c≠X.env.locals:=fun x c e z=>by
 obtain ⟨v,o,ho,hd⟩:=I.cell x c e
 obtain ⟨m,⟨o',es,ep,ho',hd',_⟩,_⟩:=I.loc
 rw [z,ho'] at ho;cases ho;rw [hd'] at hd;cases hd
theorem aL.funs (I:aL X pins σ H s):s.heap.FunFrames X.base X.outer:=by
 have all:∀ (l:List Env),(∀ b∈fE l,b∈X.fs)->X.s₀.heap.FunFrames X.base l->s.heap.FunFrames X.base l:=by
  intro l
  induction l with
  |nil=>intro _ _;trivial
  |cons env r ih =>
   intro hs hl
   obtain ⟨hk,⟨L,o,hf,hn,ho,hd⟩,hr⟩:=hl
   have hL:L∈X.fs:=hs L (by unfold fE;rw [ig,hf];exact bg)
   obtain ⟨sl,e⟩:=I.base.slot L o ho (I.ok.frf L hL) hL fun z=>I.ok.exfs L z hL
   exact ⟨hk,⟨L,_,hf,hn,e,hd⟩,ih (fun b hb=>hs b (by unfold fE;rw [ig,hf];exact aq _ hb)) hr⟩
 exact all X.outer (fun _ hb=>hb) I.ok.funs
theorem aL.stack (I:aL X pins σ H s):s.heap.FunFrames X.base X.stack:=by
 rcases I.ok.stk with e | ⟨e,hf⟩
 ·rw [e];exact I.funs
 ·rw [e]
  obtain ⟨m,hn,_⟩:=I.loc
  refine .cons (by rw [I.ok.kind];decide) hf hn ?_ I.funs
  exact oh (aj I.ok.bsz I.ok.above)
theorem aL.stkSub (I:aL X pins σ H s):∀ b∈fE X.stack,b∈X.env.locals :: X.fs:=fun b hb=>by
 rcases I.ok.stk with e | ⟨e,hf⟩
 ·rw [e] at hb;exact aq _ hb
 ·rw [e] at hb
  unfold fE at hb
  rw [ig,hf] at hb
  exact hb
theorem aL.stkFree (I:aL X pins σ H s):∀ b∈fE X.stack,H b=none:=fun b hb=>by
 rcases bv.mp (I.stkSub b hb) with e | hb
 ·rw [e];exact I.free
 ·obtain ⟨_,o,ho,_⟩:=I.ok.funs.mem hb
  exact I.base.free b o ho (I.ok.frf b hb) fun z=>I.ok.exfs b z hb
theorem aL.step {g':Array GenState}{t':Nat}{d':Drawn}{ch:List Addr}(I:aL X pins σ H s)
  (hch:∀ b∈ch,(b∈X.ex\/X.s₀.heap.objs.size<=b)/\b≠X.env.locals/\(∀ x c,X.env.cells.lookup x=some c->c≠b)/\∀ p∈X.pn++pins,p.1≠b)
  (keep:∀ b o,b≠X.env.locals->b∉X.fs->b∉ch->s.heap.get? b=some o->H b=none->h'.get? b=some o)
  (slot:∀ b o,b≠X.env.locals->b∈X.fs->b∉ch->s.heap.get? b=some o->H b=none->∃ sl,h'.get? b=some { o with slots:=sl }) (free:∀ b o,b∉ch->s.heap.get? b=some o->H b=none->H' b=none)
  (there:∀ b o,b∉ch->s.heap.get? b=some o->∃ o',h'.get? b=some o')
  (tups:∀ b xs,H b=some (.tup xs)->H' b=some (.tup xs)) (frzs:∀ b o u,H b=some (.frz o u)->H' b=some (.frz o u)) (tbls:∀ b ps,H b=some (.tbl ps)->∃ more,H' b=some (.tbl (ps++more)))
  (ns:∀ m,s.heap.Ns X.env.locals m->h'.Ns X.env.locals m) (hok:fF X.prog X.w H' h') (hg:AllBare g') :
  aL X pins σ H' { s with heap:=h',gens:=g',drawn:=d',toks:=t' }:=by
 have neL:∀ b o,X.s₀.heap.get? b=some o->b≠X.env.locals:=fun b o e=>av (ai (al e) I.ok.above)
 have neC:∀ b o,X.s₀.heap.get? b=some o->b∉X.ex->b∉ch:=fun b o e hx hb=>by
  rcases (hch b hb).1 with z | z
  ·exact hx z
  ·exact absurd (ai (al e) z) (di _)
 have cellK:∀ x c,X.env.cells.lookup x=some c->∀ v,s.heap.IsCell c v->h'.IsCell c v:=fun x c e v ⟨o,ho,hd⟩=>by
  have nch:c∉ch:=fun z=>(hch c z).2.2.1 x c e rfl
  by_cases hc:c∈X.fs
  ·obtain ⟨sl,q⟩:=slot c o (I.cne x c e) hc nch ho (I.freeC x c e)
   exact ⟨_,q,hd⟩
  ·exact ⟨o,keep c o (I.cne x c e) hc nch ho (I.freeC x c e),hd⟩
 refine ⟨I.ok,I.os,hg,⟨fun b o e n hb hx=>?_,fun b o e n hb hx=>?_,fun b o e n hx=>?_,fun b o e hx=>?_,fun b xs e=>tups b xs (I.base.tups b xs e),fun b o xs e=>frzs b o xs (I.base.frzs b o xs e),fun b ps e=>?_⟩,?_,fun x c e=>?_,?_,fun x c e=>?_,fun p hp=>?_,hok,I.len⟩
 ·exact keep b o (neL b o e) hb (neC b o e hx) (I.base.keep b o e n hb hx) (I.base.free b o e n hx)
 ·obtain ⟨sl,e1⟩:=I.base.slot b o e n hb hx
  obtain ⟨sl',e2⟩:=slot b _ (neL b o e) hb (neC b o e hx) e1 (I.base.free b o e n hx)
  exact ⟨sl',e2⟩
 ·obtain ⟨o',e1⟩:=I.base.there b o e hx
  exact free b o' (neC b o e hx) e1 (I.base.free b o e n hx)
 ·obtain ⟨o',e1⟩:=I.base.there b o e hx
  exact there b o' (neC b o e hx) e1
 ·obtain ⟨m1,e1⟩:=I.base.tbls b ps e
  obtain ⟨m2,e2⟩:=tbls b _ e1
  exact ⟨m1++m2,by rw [e2,Array.append_assoc]⟩
 ·obtain ⟨m,hn,hl⟩:=I.loc
  refine ⟨m,ns m hn,fun i x v e1 e2 e3=>?_⟩
  obtain ⟨u,r,l⟩:=hl i x v e1 e2 e3
  refine ⟨u,r,?_⟩
  rcases l with l | ⟨k,c,e,z⟩
  ·exact .inl l
  ·exact .inr ⟨k,c,e,cellK x c e _ z⟩
 ·obtain ⟨v,z⟩:=I.cell x c e
  exact ⟨v,cellK x c e v z⟩
 ·obtain ⟨m,⟨o,_,_,ho,_⟩,_⟩:=I.loc
  exact free _ o (fun z=>(hch _ z).2.1 rfl) ho I.free
 ·obtain ⟨v,o,ho,hd⟩:=I.cell x c e
  exact free c o (fun z=>(hch c z).2.2.1 x c e rfl) ho (I.freeC x c e)
 ·obtain ⟨e,n,ne,nf,d⟩:=I.pin p hp
  have nch:p.1∉ch:=fun z=>(hch p.1 z).2.2.2 p hp rfl
  exact ⟨keep p.1 p.2 ne nf nch e n,free p.1 p.2 nch e n,ne,nf,d⟩
theorem aL.un {t':Nat}(I:aL X pins σ H s) (u:Un X.fs [] H H' s.heap h') (hok:fF X.prog X.w H' h'):aL X pins σ H' { s with heap:=h',toks:=t' }:=by
 obtain ⟨m,⟨o,es,ep,ho,r⟩,_⟩:=id I.loc
 obtain ⟨sl,hL⟩:=u.any ho I.free (by simp)
 exact I.step (g':=s.gens) (d':=s.drawn) (ch:=[]) (fun _ z=>nomatch z) (fun b o _ hb _ e n=>u.keep b o e n hb (by simp)) (fun b o _ hb _ e n=>u.slot b o e n hb (by simp)) (fun b o _ e n=>u.free b o e n (by simp)) (fun b o _ e=>u.there b o e (by simp)) u.tups u.frzs u.tbls (fun m' hm=>by
  obtain ⟨o',es',ep',ho',r'⟩:=hm
  rw [ho] at ho';cases ho'
  exact ⟨_,es',ep',hL,r'⟩) hok I.bare
theorem aL.call {g':Array GenState}{t':Nat}{d':Drawn}{ch:List Addr}(I:aL X pins σ H s) (u:Un (fE X.stack) ch H H' s.heap h') (hok:fF X.prog X.w H' h') (hg:AllBare g')
  (hch:∀ b∈ch,(b∈X.ex\/X.s₀.heap.objs.size<=b)/\b≠X.env.locals/\(∀ x c,X.env.cells.lookup x=some c->c≠b)/\∀ p∈X.pn++pins,p.1≠b) :
  aL X pins σ H' { s with heap:=h',gens:=g',drawn:=d',toks:=t' }:=by
 obtain ⟨m,⟨o,es,ep,ho,r⟩,_⟩:=id I.loc
 obtain ⟨sl,hL⟩:=u.any ho I.free fun z=>(hch _ z).2.1 rfl
 exact I.step (ch:=ch) hch (fun b o hL hb hc e n=>u.keep b o e n (fun z=>(bv.mp (I.stkSub b z)).elim hL hb) hc) (fun b o _ _ hc e n=>u.any e n hc) (fun b o hc e n=>u.free b o e n hc) (fun b o hc e=>u.there b o e hc) u.tups u.frzs u.tbls (fun m' hm=>by
  obtain ⟨o',es',ep',ho',r'⟩:=hm
  rw [ho] at ho';cases ho'
  exact ⟨_,es',ep',hL,r'⟩) hok hg
theorem aL.turned {t':Nat}{it:Addr}(I:aL X pins σ H s) (k:∀ b o,b≠it->s.heap.get? b=some o->h'.get? b=some o) (hn:H it=none) (hL:it≠X.env.locals)
  (h1:it∈X.ex\/X.s₀.heap.objs.size<=it) (h2:∀ x c,X.env.cells.lookup x=some c->c≠it) (h3:∀ p∈X.pn++pins,p.1≠it):aL X pins σ H { s with heap:=h',toks:=t' }:=by
 have nit:∀ b u,H b=some u->b≠it:=fun b u e z=>by rw [z,hn] at e;cases e
 refine I.step (g':=s.gens) (d':=s.drawn) (ch:=[it]) (fun b hb=>?_) (fun b o _ _ hc e _=>k b o (fun z=>hc (by simp [z])) e) (fun b o _ _ hc e _=>⟨o.slots,k b o (fun z=>hc (by simp [z])) e⟩) (fun _ _ _ _ n=>n)
  (fun b o hc e=>⟨o,k b o (fun z=>hc (by simp [z])) e⟩) (fun _ _ e=>e) (fun _ _ _ e=>e) (fun b ps e=>⟨#[],by rw [e];simp⟩) (fun m hm=>?_) (fun b u e=>?_) I.bare
 ·have e:b=it:=by simpa using hb
  subst e
  exact ⟨h1,hL,h2,h3⟩
 ·obtain ⟨o,es,ep,ho,r⟩:=hm
  exact ⟨o,es,ep,k _ o (Ne.symm hL) ho,r⟩
 ·refine (I.hok b u e).stay (fun c v hc q=>k c v ?_ q) (fun _ q=>q) fun _ _ q=>q
  rcases hc with z | z
  ·rw [z];exact nit b u e
  ·exact nit c _ z
theorem aL.tok (I:aL X pins σ H s) (t:Nat):aL X pins σ H { s with toks:=t }:=I.un (h':=s.heap) (t':=t) Un.refl I.hok
theorem aL.kept {t':Nat}(I:aL X pins σ H s) (k:∀ b u,s.heap.get? b=some u->h'.get? b=some u):aL X pins σ H { s with heap:=h',toks:=t' }:=I.un (Un.kept k) (I.hok.kept k)
theorem aL.laid {a:Addr}{o:HO}{t':Nat}(I:aL X pins σ H s) (k:∀ b u,s.heap.get? b=some u->h'.get? b=some u) (hp:s.heap.objs.size<=a) (new:bL X.prog X.w (aN H a o) h' a o) :
  aL X pins σ (aN H a o) { s with heap:=h',toks:=t' }:=I.un (Un.laid k hp (I.hok.fresh hp)) (I.hok.laid k hp new)
theorem aL.write {x e:Addr}{o:HO}{t':Nat}(I:aL X pins σ H s) (mu:Mut (H x)) (he:e=x\/H e=some (.own x)) (k:∀ b u,b≠e->s.heap.get? b=some u->h'.get? b=some u) (heo:∃ u,h'.get? e=some u)
  (new:bL X.prog X.w (aN H x o) h' x o):aL X pins σ (aN H x o) { s with heap:=h',toks:=t' }:=I.un (Un.write mu he k heo) (I.hok.write mu he k heo new)
theorem aL.pins_of {pins':List (Addr×Obj)}(I:aL X pins σ H s) (h:∀ p∈pins',s.heap.get? p.1=some p.2/\H p.1=none/\p.1≠X.env.locals/\p.1∉X.fs/\∀ v,p.2.data≠ .cell v):aL X pins' σ H s :=
 ⟨I.ok,I.os,I.bare,I.base,I.loc,I.cell,I.free,I.freeC,fun p hp=>(dj.mp hp).elim (fun z=>I.pin p (er _ z)) (h p),I.hok,I.len⟩
theorem pE {N:List Str}(hN:N.Nodup) {i j:Nat}{x:Str}(a:N[i]?=some x) (b:N[j]?=some x):i=j:=by
 obtain ⟨h1,e1⟩:=bu.mp a
 obtain ⟨h2,e2⟩:=bu.mp b
 exact (qz hN).mp (e1.trans e2.symm)
theorem mO {M:Model}{A:Around}{E:Value->Shared->Prop}{i:Nat}{x:Str}{v:V}{u:Value}{Q:Unit->Shared->Prop}(I:aL X pins σ H s) (hN:X.N.Nodup) (hi:X.N[i]?=some x) (hx:zG X.env.scope x) (r:bG v u)
  (h:∀ s',aL X pins (σ.set i (some v)) H s'->(∃ a,Heap.SameBut a s.heap s'.heap/\(a=X.env.locals\/X.env.cells.lookup x=some a))->Q () s') (hf:autoParam (X.fn x=true\/X.env.scope.names.lookup x=some .local) Rq2._auto_1):wpAny M A (storeName X.env x u) Q E s:=by
 obtain ⟨m,hn,hl⟩:=id I.loc
 have hcls:(X.env.scope.kind == .class || (X.env.scope.kind == .module && X.env.locals != X.env.globals))=false:=by rw [I.ok.kind];rfl
 have hiσ: i < σ.length:=by rw [I.len];exact (bu.mp hi).1
 have cne:=I.cne
 have tracked:∀ {a:Addr}{h':Heap},(∃ o,s.heap.get? a=some o/\H a=none)->Heap.SameBut a s.heap h'->fF X.prog X.w H h':=fun {a h'} ha hs b ob e=>by
  obtain ⟨_,_,hfree⟩:=ha
  refine (I.hok b ob e).stay (fun c w' hc q=>(hs.2 c ?_).trans q) (fun _ q=>q) fun _ _ q=>q
  rintro rfl
  rcases hc with rfl | hc
  ·rw [hfree] at e;cases e
  ·rw [hfree] at hc;cases hc
 rcases hx with hk | hk
 ·refine wpAny_storeName_local hk hn (fun h' hn' hs=>?_) hcls
  obtain ⟨oL,_,_,hoL,_⟩:=id hn
  refine h _ ⟨I.ok,I.os,I.bare,⟨fun b o e n hb hx=>?_,fun b o e n hb hx=>?_,I.base.free,fun b o e hx=>?_,I.base.tups,I.base.frzs,I.base.tbls⟩,⟨_,hn',fun j y v' e1 e2 e3=>?_⟩,fun y c e=>?_,I.free,I.freeC,fun p hp=>?_,tracked ⟨oL,hoL,I.free⟩ hs,by simpa using I.len⟩ ⟨_,hs,.inl rfl⟩
  ·exact (hs.2 b (av (ai (al e) I.ok.above))).trans (I.base.keep b o e n hb hx)
  ·obtain ⟨sl,e1⟩:=I.base.slot b o e n hb hx
   exact ⟨sl,(hs.2 b (av (ai (al e) I.ok.above))).trans e1⟩
  ·obtain ⟨o',e1⟩:=I.base.there b o e hx
   exact ⟨o',(hs.2 b (av (ai (al e) I.ok.above))).trans e1⟩
  ·by_cases hj:j=i
   ·subst hj
    rw [hi] at e1;cases e1
    rw [jd hiσ] at e2
    cases e2
    exact ⟨u,r,.inl ⟨hk,by simp⟩⟩
   ·rw [jj (Ne.symm hj)] at e2
    obtain ⟨u',r',q⟩:=hl j y v' e1 e2 e3
    refine ⟨u',r',?_⟩
    rcases q with ⟨k,e⟩ | ⟨k,c,e,z⟩
    ·refine .inl ⟨k,?_⟩
     have:y≠x:=fun e=>hj (pE hN e1 (e ▸ hi))
     simp [this,e]
    ·exact .inr ⟨k,c,e,z.sameBut hs (cne y c e)⟩
  ·obtain ⟨w',z⟩:=I.cell y c e
   exact ⟨w',z.sameBut hs (cne y c e)⟩
  ·obtain ⟨e,n,ne,nf,d⟩:=I.pin p hp
   exact ⟨(hs.2 p.1 ne).trans e,n,ne,nf,d⟩
 ·have hfn:X.fn x=true:=by
   rcases hf with z | z
   ·exact z
   ·rw [z] at hk;cases hk
  obtain ⟨c,hc⟩:=I.ok.has x (.inl hk)
  obtain ⟨w',z⟩:=I.cell x c hc
  refine wpAny_storeName_cell I.ok.kind hk hc z (fun h' hc' hs=>?_)
  obtain ⟨oc,hoc,hocd⟩:=id z
  refine h { s with heap:=h' } ⟨I.ok,I.os,I.bare,⟨fun b o e n hb hx=>?_,fun b o e n hb hx=>?_,I.base.free,fun b o e hx=>?_,I.base.tups,I.base.frzs,I.base.tbls⟩,⟨m,hn.sameBut hs (Ne.symm (cne x c hc)),fun j y v' e1 e2 e3=>?_⟩,fun y c' e=>?_,I.free,I.freeC,fun p hp=>?_,tracked ⟨oc,hoc,I.freeC x c hc⟩ hs,by simpa using I.len⟩ ⟨c,hs,.inr hc⟩
  ·exact (hs.2 b (av (ai (al e) (I.ok.cab x c hfn hc)))).trans (I.base.keep b o e n hb hx)
  ·obtain ⟨sl,e1⟩:=I.base.slot b o e n hb hx
   exact ⟨sl,(hs.2 b (av (ai (al e) (I.ok.cab x c hfn hc)))).trans e1⟩
  ·obtain ⟨o',e1⟩:=I.base.there b o e hx
   exact ⟨o',(hs.2 b (av (ai (al e) (I.ok.cab x c hfn hc)))).trans e1⟩
  ·by_cases hj:j=i
   ·subst hj
    rw [hi] at e1;cases e1
    rw [jd hiσ] at e2
    cases e2
    exact ⟨u,r,.inr ⟨.inl hk,c,hc,hc'⟩⟩
   ·rw [jj (Ne.symm hj)] at e2
    obtain ⟨u',r',q⟩:=hl j y v' e1 e2 e3
    refine ⟨u',r',?_⟩
    rcases q with q | ⟨k,c',e,z'⟩
    ·exact .inl q
    ·refine .inr ⟨k,c',e,z'.sameBut hs ?_⟩
     rintro rfl
     exact hj (pE hN e1 (I.ok.inj _ _ _ e hc ▸ hi))
  ·by_cases hcc:c'=c
   ·subst hcc;exact ⟨_,hc'⟩
   ·obtain ⟨w2,z2⟩:=I.cell y c' e
    exact ⟨w2,z2.sameBut hs hcc⟩
  ·obtain ⟨e,n,ne,nf,d⟩:=I.pin p hp
   refine ⟨(hs.2 p.1 ?_).trans e,n,ne,nf,d⟩
   intro q
   rw [q,hoc] at e
   have q':oc=p.2:=ci e
   exact d w' (by rw [<- q'];exact hocd)
theorem eL {M:Model}{A:Around}{E:Value->Shared->Prop}{i:Nat}{x:Str}{v:V}{u:Value}{Q:Unit->Shared->Prop}(I:aL X pins σ H s) (hN:X.N.Nodup) (hi:X.N[i]?=some x) (hx:zG X.env.scope x) (r:bG v u)
  (h:∀ s',aL X pins (σ.set i (some v)) H s'->Q () s') (hf:autoParam (X.fn x=true\/X.env.scope.names.lookup x=some .local) Rq2._auto_1):wpAny M A (storeName X.env x u) Q E s :=
 mO I hN hi hx r (fun s' I' _=>h s' I') hf
theorem aL.call' {s':Shared}{ch:List Addr}(I:aL X pins σ H s) (ho:s'.os=s.os) (u:Un (fE X.stack) ch H H' s.heap s'.heap) (hok:fF X.prog X.w H' s'.heap) (hg:AllBare s'.gens)
  (hch:∀ b∈ch,(b∈X.ex\/X.s₀.heap.objs.size<=b)/\b≠X.env.locals/\(∀ x c,X.env.cells.lookup x=some c->c≠b)/\∀ p∈X.pn++pins,p.1≠b):aL X pins σ H' s':=by
 obtain ⟨h',g',d',t',o'⟩:=s'
 have e:o'=s.os:=ho
 subst e
 exact I.call (g':=g') (t':=t') (d':=d') u hok hg hch
end
abbrev XK:=Value->Option Addr->Hp->Prop
abbrev St:=List (Option V)
abbrev VK:=V->Hp->Prop
abbrev TE:=St->Hp->VK->Prop
abbrev TT:=St->Hp->(Bool->Hp->Prop)->Prop
abbrev TA:=St->Hp->(List V->Hp->Prop)->Prop
structure dQ where
 nx:St->Hp->Prop
 rt:VK
 bk:St->Hp->Prop:=fun _ _=>False
 ct:St->Hp->Prop:=fun _ _=>False
abbrev TS:=dQ->St->Hp->Prop
def EP (X:Cx) (pins:List (Addr×Obj)) (σ: St) (Q:VK) (u:Value) (s':Shared):Prop:=∃ v H',aL X pins σ H' s'/\bG v u/\Q v H'
def TP (X:Cx) (pins:List (Addr×Obj)) (σ: St) (Q:Bool->Hp->Prop) (b:Bool) (s':Shared):Prop:=∃ H',aL X pins σ H' s'/\Q b H'
def AP (X:Cx) (pins:List (Addr×Obj)) (σ: St) (Q:List V->Hp->Prop) (us:List Value) (s':Shared):Prop:=∃ vs H',aL X pins σ H' s'/\aV vs us/\Q vs H'
def SP (X:Cx) (pins:List (Addr×Obj)) (D:dQ) (f:Flow) (s':Shared):Prop :=
 match f with
 |.next=>∃ σ' H',aL X pins σ' H' s'/\D.nx σ' H'
 |.brk=>∃ σ' H',aL X pins σ' H' s'/\D.bk σ' H'
 |.cont=>∃ σ' H',aL X pins σ' H' s'/\D.ct σ' H'
 |.ret u=>∃ v σ' H',aL X pins σ' H' s'/\bG v u/\D.rt v H'
def PE (X:Cx) (e:Expr) (t:TE):Prop :=
 ∀ (pins:List (Addr×Obj)) (s:Shared) (σ: St) (H:Hp) (Q:VK),aL X pins σ H s->t σ H Q->wpAny (model X.prog X.w) X.A (eval e X.env) (EP X pins σ Q) X.xe s
def PT (X:Cx) (e:Expr) (t:TT):Prop :=
 ∀ (pins:List (Addr×Obj)) (s:Shared) (σ: St) (H:Hp) (Q:Bool->Hp->Prop),aL X pins σ H s->t σ H Q->wpAny (model X.prog X.w) X.A (isTrue e X.env (eval e X.env)) (TP X pins σ Q) X.xe s
def PW (X:Cx) (e:Expr) (t:TT):Prop :=
 ∀ (whole:Sem Value) (pins:List (Addr×Obj)) (s:Shared) (σ: St) (H:Hp) (Q:Bool->Hp->Prop),aL X pins σ H s->t σ H Q->wpAny (model X.prog X.w) X.A (isTrue e X.env whole) (TP X pins σ Q) X.xe s
theorem PW.pt {X:Cx}{e:Expr}{t:TT}(h:PW X e t):PT X e t:=h _
def PA (X:Cx) (es:List Expr) (t:TA):Prop :=
 ∀ (pos:Pos) (pins:List (Addr×Obj)) (s:Shared) (σ: St) (H:Hp) (Q:List V->Hp->Prop),aL X pins σ H s->t σ H Q->wpAny (model X.prog X.w) X.A (spliced (backTo pos (starEach es X.env))) (AP X pins σ Q) X.xe s
def PS (X:Cx) (st:Stmt) (t:TS):Prop :=
 ∀ (pins:List (Addr×Obj)) (s:Shared) (σ: St) (H:Hp) (D:dQ),aL X pins σ H s->t D σ H->wpAny (model X.prog X.w) X.A (exec st X.env) (SP X pins D) X.xe s
def kE (X:Cx) (st:List Stmt) (t:TS):Prop :=
 ∀ (pins:List (Addr×Obj)) (s:Shared) (σ: St) (H:Hp) (D:dQ),aL X pins σ H s->t D σ H->wpAny (model X.prog X.w) X.A (execs st X.env) (SP X pins D) X.xe s
theorem bZ {α: Type}{t:Sem α}{Q Q':α->Shared->Prop}{M:Model}{A:Around}{E:Value->Shared->Prop}{s:Shared}(h:wpAny M A t Q E s) (hQ:∀ a s,Q a s->Q' a s):wpAny M A t Q' E s:=bi h hQ fun _ _ x=>x
section
variable {X:Cx}
def aN2 (i:Nat):TE:=fun σ H Q=>∃ v,σ[i]?=some (some v)/\Q v H
def tC (v:V):TE:=fun _ H Q=>Q v H
theorem aG5 {i:Nat}{x:Str}{pos:Pos}(hN:X.N[i]?=some x) (hv:Vis X.env.scope x) (hd:autoParam ((x == ("__debug__": Str))=false) Rq1._auto_1) (hcd:autoParam ((x == ("__classdict__": Str))=false) Rq1._auto_1):PE X (.Name x pos) (aN2 i):=by
 intro pins s σ H Q I h
 obtain ⟨v,e,h⟩:=h
 obtain ⟨m,hn,hl⟩:=I.loc
 obtain ⟨u,r,l⟩:=hl i x v hN e hv
 have fin:EP X pins σ Q u s:=⟨v,H,I,r,h⟩
 rcases l with ⟨hk,hm⟩ | ⟨hk,c,hc,hcell⟩
 ·exact rg (oi I.ok.kind hk hn hm fin) hd
 ·rcases hk with hk | hk
  ·exact rg (ou I.ok.kind hk hc hcell fin) hd
  ·exact rg (wpAny_loadName_free I.ok.kind hk hc hcell fin hcd) hd
theorem aC {i j pos}:PE X (.Constant (.int i) j pos) (tC (.int i)):=fun _ _ _ H _ I h=>wpAny_Constant_int ⟨.int i,H,I.tok _,⟨_,rfl⟩,h⟩
theorem aU0 {b j pos}:PE X (.Constant (.bool b) j pos) (tC (.bl b)):=fun _ _ _ H _ I h=>Constant_bool ⟨.bl b,H,I,rfl,h⟩
theorem aJ6 {j pos}:PE X (.Constant .none j pos) (tC .non):=fun _ _ _ H _ I h=>Constant_none ⟨.non,H,I,rfl,h⟩
theorem aG {x j pos}:PE X (.Constant (.str x) j pos) (tC (.str x)):=fun _ _ _ H _ I h=>Calls.Constant_str ⟨.str x,H,I.tok _,⟨_,rfl⟩,h⟩
def Gl (X:Cx) (x:Str):Prop:=X.env.kindOf x=some .globalImplicit
theorem kL {E:Value->Shared->Prop}{pins:List (Addr×Obj)}{s:Shared}{σ: St}{H:Hp}{x:Str}{u:Value}{pos:Pos}{Q:Value->Shared->Prop}(I:aL X pins σ H s) (hg:Gl X x) (hm:X.mg x=some u) (h:Q u s)
  (hd:autoParam ((x == ("__debug__": Str))=false) Rq1._auto_1):wpAny (model X.prog X.w) X.A (eval (.Name x pos) X.env) Q E s :=
 kg I.ok.kind hg (Calls.loadGlobal_global (by rw [I.ok.glob];exact I.mod.glob.keeps I.bk) hm h) hd
theorem iN {E:Value->Shared->Prop}{pins:List (Addr×Obj)}{s:Shared}{σ: St}{H:Hp}{x:Str}{u:Value}{pos:Pos}{Q:Value->Shared->Prop}(I:aL X pins σ H s) (hg:Gl X x) (hm:X.mg x=none) (hv:bootBuiltins x=some u) (h:Q u s)
  (hn:autoParam (x≠"__name__") Rq1._auto_1) (hd:autoParam ((x == ("__debug__": Str))=false) Rq1._auto_1):wpAny (model X.prog X.w) X.A (eval (.Name x pos) X.env) Q E s:=by
 obtain ⟨mb,h1,h2⟩:=I.mod.blt
 exact kg I.ok.kind hg (Calls.loadGlobal_builtin (by rw [I.ok.glob];exact I.mod.glob.keeps I.bk) hm (by rw [I.ok.blt];exact h1.keeps I.bk) ((h2 x hn).trans hv) h) hd
theorem zH {x:Str}{v:V}{u:Value}{pos:Pos}(hg:Gl X x) (hm:X.mg x=some u) (r:bG v u) (hd:autoParam ((x == ("__debug__": Str))=false) Rq1._auto_1):PE X (.Name x pos) (tC v) :=
 fun _ _ _ H _ I h=>kL I hg hm ⟨v,H,I,r,h⟩ hd
theorem jJ {x:Str}{v:V}{u:Value}{pos:Pos}(hg:Gl X x) (hm:X.mg x=none) (hv:bootBuiltins x=some u) (r:bG v u) (hn:autoParam (x≠"__name__") Rq1._auto_1) (hd:autoParam ((x == ("__debug__": Str))=false) Rq1._auto_1):PE X (.Name x pos) (tC v) :=
 fun _ _ _ H _ I h=>iN I hg hm hv ⟨v,H,I,r,h⟩ hn hd
variable {a b:Expr}{ta tb:TE}{pos:Pos}
def tB (t:TE):TT:=fun σ H Q=>t σ H fun x H1=>∃ c,x= .bl c/\Q c H1
theorem lH {e:Expr}{t:TE}(h:PE X e t) (he:autoParam (∀ whole,isTrue e X.env whole=(do let v <- whole;standAt e.pos;holding [v] (truthy v))) Rq3._auto_1):PT X e (tB t):=by
 intro pins s σ H Q I hw
 refine isTrue_plain (bZ (h pins s σ H _ I hw) ?_) (he _);rintro v s1 ⟨x,H1,I1,r1,q1⟩
 obtain ⟨d,rfl,q⟩:=q1
 cases r1
 exact gg ⟨H1,I1,q⟩
variable {tA tB':TT}{rest:List Expr}
def aV5 (t u:TT):TT:=fun σ H Q=>t σ H fun c H1=>if c=true then u σ H1 Q else Q false H1
def tOr (t u:TT):TT:=fun σ H Q=>t σ H fun c H1=>if c=true then Q true H1 else u σ H1 Q
def aX7 (t:TT):TT:=fun σ H Q=>t σ H fun c H1=>Q (!c) H1
theorem eY (ha:PT X a tA):PW X (.BoolOp .And [a] pos) tA:=by
 intro wh pins s σ H Q I h
 refine isTrue_and (bZ (ha pins s σ H Q I h) fun c s1 e=>?_)
 cases c with
 |true=>exact isTrue_and_nil e
 |false=>exact e
theorem jW (ha:PT X a tA):PW X (.BoolOp .Or [a] pos) tA:=by
 intro wh pins s σ H Q I h
 refine isTrue_or (bZ (ha pins s σ H Q I h) fun c s1 e=>?_)
 cases c with
 |false=>exact isTrue_or_nil e
 |true=>exact e
theorem gE (ha:PT X a tA) (hb:PW X (.BoolOp .And (b :: rest) pos) tB'):PW X (.BoolOp .And (a :: b :: rest) pos) (aV5 tA tB'):=by
 intro wh pins s σ H Q I h
 refine isTrue_and (bZ (ha pins s σ H _ I h) ?_);rintro c s1 ⟨H1,I1,q1⟩
 cases c with
 |true=>exact hb wh pins s1 σ H1 Q I1 q1
 |false=>exact ⟨H1,I1,q1⟩
theorem lS (ha:PT X a tA) (hb:PW X (.BoolOp .Or (b :: rest) pos) tB'):PW X (.BoolOp .Or (a :: b :: rest) pos) (tOr tA tB'):=by
 intro wh pins s σ H Q I h
 refine isTrue_or (bZ (ha pins s σ H _ I h) ?_);rintro c s1 ⟨H1,I1,q1⟩
 cases c with
 |true=>exact ⟨H1,I1,q1⟩
 |false=>exact hb wh pins s1 σ H1 Q I1 q1
theorem nO (ha:PT X a tA):PT X (.UnaryOp .Not a pos) (aX7 tA):=by
 intro pins s σ H Q I h
 exact isTrue_not (ha pins s σ H (fun c H1=>Q (!c) H1) I h)
def aQ3 (ta tb:TE):TE:=fun σ H Q=>ta σ H fun x H1=>∃ c,x= .bl c/\if c=true then tb σ H1 Q else Q (.bl false) H1
def aR7 (ta:TE):TE:=fun σ H Q=>ta σ H fun x H1=>∃ c,x= .bl c/\Q (.bl (!c)) H1
theorem oP {op} {t:TE}(h:PE X a t):PE X (.BoolOp op [a] pos) t:=fun pins s σ H Q I hw=>BoolOp_one (h pins s σ H Q I hw)
theorem oQ (ha:PE X a ta) (hb:PE X (.BoolOp .And (b :: rest) pos) tb):PE X (.BoolOp .And (a :: b :: rest) pos) (aQ3 ta tb):=by
 intro pins s σ H Q I h
 refine BoolOp_and (bZ (ha pins s σ H _ I h) ?_);rintro v s1 ⟨x,H1,I1,r1,q1⟩
 obtain ⟨c,rfl,q1⟩:=q1
 cases r1
 refine gg ?_
 cases c with
 |true=>exact hb pins s1 σ H1 Q I1 q1
 |false=>exact ⟨.bl false,H1,I1,rfl,q1⟩
theorem aJ4 (ha:PE X a ta):PE X (.UnaryOp .Not a pos) (aR7 ta):=by
 intro pins s σ H Q I h
 refine UnaryOp_ (bZ (ha pins s σ H _ I h) ?_);rintro v s1 ⟨x,H1,I1,r1,q1⟩
 obtain ⟨c,rfl,q1⟩:=q1
 cases r1
 exact not_of (gg ⟨.bl (!c),H1,I1,rfl,q1⟩)
def tIf (t:TT) (ta tb:TE):TE:=fun σ H Q=>t σ H fun c H1=>if c=true then ta σ H1 Q else tb σ H1 Q
theorem jK {c:Expr}(hc:PT X c tA) (ha:PE X a ta) (hb:PE X b tb):PE X (.IfExp c a b pos) (tIf tA ta tb):=by
 intro pins s σ H Q I h
 refine wpAny_IfExp (bZ (hc pins s σ H _ I h) ?_);rintro d s1 ⟨H1,I1,q1⟩
 cases d with
 |true=>exact ha pins s1 σ H1 Q I1 q1
 |false=>exact hb pins s1 σ H1 Q I1 q1
end
def bH (K:PySem.W.Frag) (H:Hp) (a:Addr) (xs:List V):Prop :=
 Rd H a (.lst xs) \/
  ∃ (o:Obj) (its:Array Value) (n:Nat),K.lookup a=some o/\o.cls= .type "list"/\o.dict=none/\o.data= .seq its n/\its.size<=sizeLine/\aV xs its.toList
def bA (K:PySem.W.Frag) (H:Hp) (a:Addr) (xs:List V):Prop :=
 Rd H a (.tup xs) \/
  ∃ (o:Obj) (its:Array Value) (n:Nat),K.lookup a=some o/\o.cls= .type "tuple"/\o.data= .seq its n/\its.size<=sizeLine/\aV xs its.toList
def aX4:Value->Option V
 |.none=>some .non
 |.bool b=>some (.bl b)
 |.int i _=>some (.int i)
 |.str x _=>some (.str x)
 |.bytes b _=>some (.byt b)
 |.float b _=>some (.flt b)
 |.ref a=>some (.ref a)
 |.type n=>some (.ty n)
 |_=>none
theorem bG.abs {x:V}{u:Value}(r:bG x u):aX4 u=some x:=by
 cases x with
 |non=>cases r;rfl
 |bl _=>cases r;rfl
 |int _=>obtain ⟨t,rfl⟩:=r;rfl
 |str _=>obtain ⟨t,rfl⟩:=r;rfl
 |byt _=>obtain ⟨t,rfl⟩:=r;rfl
 |flt _=>obtain ⟨t,rfl⟩:=r;rfl
 |ref _=>cases r;rfl
 |ty _=>cases r;rfl
theorem bG.inj {x y:V}{u:Value}(r:bG x u) (q:bG y u):x=y:=ci (r.abs.symm.trans q.abs)
theorem aV.inj:∀ {xs ys:List V}{us:List Value},aV xs us->aV ys us->xs=ys
 |_,_,_,.nil,.nil=>rfl
 |_,_,_,.cons r t,.cons r' t'=>by rw [r.inj r',aV.inj t t']
section
variable {X:Cx}{pins:List (Addr×Obj)}{σ: St}{H:Hp}{s:Shared}{a:Addr}{xs ys:List V}
theorem bH.of {K:PySem.W.Frag}(h:H a=some (.lst xs)):bH K H a xs:= .inl (.inl h)
theorem bA.of {K:PySem.W.Frag}(h:H a=some (.tup xs)):bA K H a xs:= .inl (.inl h)
theorem aL.list (I:aL X pins σ H s) (h:bH X.K H a xs):∃ its:List Value,aV xs its/\PlainL s.heap a its.toArray/\xs.length<=sizeLine:=by
 rcases h with h | ⟨o,its,n,hk,hc,hd,hs,hz,r⟩
 ·obtain ⟨z,its,n,r,e⟩:=h.ok I.hok
  exact ⟨its,r,⟨_,n,e,rfl,rfl,rfl⟩,z⟩
 ·refine ⟨its.toList,r,⟨o,n,I.kIn a o hk,hc,hd,by simpa using hs⟩,?_⟩
  have e:=r.length
  simp only [Array.length_toList] at e
  omega
theorem aL.tuple (I:aL X pins σ H s) (h:bA X.K H a xs):∃ its:List Value,aV xs its/\IsTup s.heap a its.toArray/\xs.length<=sizeLine:=by
 rcases h with h | ⟨o,its,n,hk,hc,hs,hz,r⟩
 ·obtain ⟨z,its,r,p⟩:=h.ok I.hok
  exact ⟨its,r,p.is,z⟩
 ·refine ⟨its.toList,r,⟨o,I.kIn a o hk,hc,n,by simpa using hs⟩,?_⟩
  have e:=r.length
  simp only [Array.length_toList] at e
  omega
theorem aL.list_inj (I:aL X pins σ H s) (h:bH X.K H a xs) (h':bH X.K H a ys):xs=ys:=by
 obtain ⟨its,r,⟨o,n,e,_,_,d⟩,_⟩:=I.list h
 obtain ⟨its',r',⟨o',n',e',_,_,d'⟩,_⟩:=I.list h'
 rw [e] at e';cases e'
 rw [d] at d'
 injection d' with d1 _
 have:its=its':=by simpa using ee Array.toList d1
 subst this
 exact r.inj r'
theorem aL.tuple_inj (I:aL X pins σ H s) (h:bA X.K H a xs) (h':bA X.K H a ys):xs=ys:=by
 obtain ⟨its,r,⟨o,e,_,n,d⟩,_⟩:=I.tuple h
 obtain ⟨its',r',⟨o',e',_,n',d'⟩,_⟩:=I.tuple h'
 rw [e] at e';cases e'
 rw [d] at d'
 injection d' with d1 _
 have:its=its':=by simpa using ee Array.toList d1
 subst this
 exact r.inj r'
end
abbrev Cx.wish (X:Cx) (E:Value->Shared->Prop):Cx:={ X with xe:=E }
abbrev Cx.nox (X:Cx):Cx:=X.wish fun _ _=>False
theorem Cx.Ok.wish {X:Cx}(ok:X.Ok) (E:Value->Shared->Prop):(X.wish E).Ok :=
 ⟨ok.mod,ok.kind,ok.glob,ok.blt,ok.above,ok.inj,ok.has,ok.cab,ok.hd,ok.frames,ok.stk,ok.exf,ok.bs,ok.bsz,ok.noex,ok.exfs,ok.funs,ok.frf⟩
theorem Cx.Ok.unwish {X:Cx}{E:Value->Shared->Prop}(ok:(X.wish E).Ok):X.Ok :=
 ⟨ok.mod,ok.kind,ok.glob,ok.blt,ok.above,ok.inj,ok.has,ok.cab,ok.hd,ok.frames,ok.stk,ok.exf,ok.bs,ok.bsz,ok.noex,ok.exfs,ok.funs,ok.frf⟩
section
variable {X:Cx}{pins:List (Addr×Obj)}{σ: St}{H:Hp}{s:Shared}{E:Value->Shared->Prop}
theorem aL.wish (I:aL X pins σ H s) (E:Value->Shared->Prop):aL (X.wish E) pins σ H s:=⟨I.ok.wish E,I.os,I.bare,I.base,I.loc,I.cell,I.free,I.freeC,I.pin,I.hok,I.len⟩
theorem aL.unwish (I:aL (X.wish E) pins σ H s):aL X pins σ H s:=⟨I.ok.unwish,I.os,I.bare,I.base,I.loc,I.cell,I.free,I.freeC,I.pin,I.hok,I.len⟩
theorem SP.unwish {D:dQ}{f:Flow}{s':Shared}(h:SP (X.wish E) pins D f s'):SP X pins D f s':=by
 cases f with
 |next=>obtain ⟨σ',H',I,q⟩:=h;exact ⟨σ',H',I.unwish,q⟩
 |brk=>obtain ⟨σ',H',I,q⟩:=h;exact ⟨σ',H',I.unwish,q⟩
 |cont=>obtain ⟨σ',H',I,q⟩:=h;exact ⟨σ',H',I.unwish,q⟩
 |ret u=>obtain ⟨v,σ',H',I,r,q⟩:=h;exact ⟨v,σ',H',I.unwish,r,q⟩
theorem kE.nox {st:List Stmt}{t:TS}(h:kE X.nox st t):kE X st t:=fun pins s σ H D I hw =>
 bi (h pins s σ H D (I.wish _) hw) (fun _ _ q=>q.unwish) fun _ _ z=>False.elim z
end
section
variable {X:Cx}{st:Stmt}{rest:List Stmt}{t u:TS}{e:Expr}{te:TE}{pos:Pos}
def tNext:TS:=fun D σ H=>D.nx σ H
def aF4 (t u:TS):TS:=fun D σ H=>t { D with nx:=u D } σ H
theorem aX:kE X [] tNext:=fun _ _ σ H _ I h=>ik ⟨σ,H,I,h⟩
theorem aF (h1:PS X st t) (h2:kE X rest u):kE X (st :: rest) (aF4 t u):=by
 intro pins s σ H D I h
 refine kr (bZ (h1 pins s σ H { D with nx:=u D } I h) fun f s1 q=>?_)
 cases f with
 |next =>
  obtain ⟨σ',H',I',q⟩:=q
  exact h2 pins s1 σ' H' D I' q
 |ret v=>exact q
 |brk=>exact q
 |cont=>exact q
theorem aE (h1:PS X st t):kE X [st] t:=by
 intro pins s σ H D I h
 refine kr (bZ (h1 pins s σ H D I h) fun f s1 q=>?_)
 cases f with
 |next=>exact ik q
 |ret v=>exact q
 |brk=>exact q
 |cont=>exact q
theorem aL.quiet {pins:List (Addr×Obj)}{σ: St}{H:Hp}{s:Shared}(I:aL X pins σ H s):interactive X.env=false:=by simp [interactive,I.ok.kind]
def aP4 (te:TE):TS:=fun D σ H=>te σ H fun _ H1=>D.nx σ H1
theorem bR (he:PE X e te) (hs:autoParam (swapsWith e none pos.line X.env=pure false) Rq0._auto_1):PS X (.Expr e pos) (aP4 te):=by
 intro pins s σ H D I h
 refine wpAny_Expr_any (bZ (he pins s σ H _ I h) ?_) I.quiet hs;rintro v s1 ⟨x,H1,I1,r1,q1⟩;exact ⟨σ,H1,I1,q1⟩
def aW6 (te:TE):TS:=fun D σ H=>te σ H D.rt
theorem aO (he:PE X e te):PS X (.Return (some e) pos) (aW6 te):=by
 intro pins s σ H D I h
 refine wpAny_Return_some (bZ (he pins s σ H _ I h) ?_);rintro v s1 ⟨x,H1,I1,r1,q1⟩;exact ⟨x,σ,H1,I1,r1,q1⟩
def aV8 (c:TT) (t u:TS):TS:=fun D σ H=>c σ H fun b H1=>if b=true then t D σ H1 else u D σ H1
theorem bO {c:Expr}{a b:List Stmt}{tc:TT}(hc:PT X c tc) (ha:kE X a t) (hb:kE X b u):PS X (.If c a b pos) (aV8 tc t u):=by
 intro pins s σ H D I h
 refine wpAny_If (bZ (hc pins s σ H _ I h) ?_);rintro d s1 ⟨H1,I1,q1⟩
 cases d with
 |true=>exact ha pins s1 σ H1 D I1 q1
 |false=>exact hb pins s1 σ H1 D I1 q1
def tNever:TS:=fun _ _ _=>False
theorem eG {sts:List Stmt}:kE X sts tNever:=fun _ _ _ _ _ _ h=>h.elim
end
abbrev TG:=V->St->Hp->(St->Hp->Prop)->Prop
abbrev TGs:=List V->St->Hp->(St->Hp->Prop)->Prop
def PG (X:Cx) (target:Expr) (t:TG):Prop :=
 ∀ (pins:List (Addr×Obj)) (s:Shared) (σ: St) (H:Hp) (v:V) (u:Value) (Q:St->Hp->Prop),aL X pins σ H s->bG v u->t v σ H Q ->
  wpAny (model X.prog X.w) X.A (assign target X.env u) (fun _ s'=>∃ σ' H',aL X pins σ' H' s'/\Q σ' H') X.xe s
def PGs (X:Cx) (ts:List Expr) (t:TGs):Prop :=
 ∀ (pins:List (Addr×Obj)) (s:Shared) (σ: St) (H:Hp) (vs:List V) (us:List Value) (Q:St->Hp->Prop),aL X pins σ H s->aV vs us->t vs σ H Q ->
  wpAny (model X.prog X.w) X.A (assignInOrder ((assignEach ts X.env).map (·.2)) us) (fun _ s'=>∃ σ' H',aL X pins σ' H' s'/\Q σ' H') X.xe s
abbrev TSet:=V->V->V->Hp->(Hp->Prop)->Prop
def aQ6 (X:Cx) (t:TSet):Prop :=
 ∀ (pins:List (Addr×Obj)) (s:Shared) (σ: St) (H:Hp) (o i v:V) (ov iv u:Value) (Q:Hp->Prop),aL X pins σ H s->bG o ov->bG i iv->bG v u->t o i v H Q ->
  wpAny (model X.prog X.w) X.A (setItem ov iv u) (fun _ s'=>∃ H',aL X pins σ H' s'/\Q H') X.xe s
abbrev TIp:=V->V->Hp->VK->Prop
def PIp (X:Cx) (op:Operator) (t:TIp):Prop :=
 ∀ (pins:List (Addr×Obj)) (s:Shared) (σ: St) (H:Hp) (x y:V) (v u:Value) (Q:VK),aL X pins σ H s->bG x v->bG y u->t x y H Q ->
  wpAny (model X.prog X.w) X.A (inplaceOp op v u) (EP X pins σ Q) X.xe s
section
variable {X:Cx}{pos:Pos}
def mB (i:Nat):TG:=fun v σ H Q=>Q (σ.set i (some v)) H
theorem zI {i:Nat}{x:Str}(hN:X.N.Nodup) (hi:X.N[i]?=some x) (hx:zG X.env.scope x) (hf:autoParam (X.fn x=true\/X.env.scope.names.lookup x=some .local) Rq2._auto_1):PG X (.Name x pos) (mB i):=by
 intro pins s σ H v u Q I r h
 exact qj (eL I hN hi hx r (fun s' I'=>⟨_,H,I',h⟩) hf)
def gNil:TGs:=fun vs σ H Q=>vs=[]/\Q σ H
def aM3 (t:TG) (u:TGs):TGs:=fun vs σ H Q=>∃ v r,vs=v :: r/\t v σ H fun σ' H'=>u r σ' H' Q
theorem kM:PGs X [] gNil:=by
 intro pins s σ H vs us Q I r h
 obtain ⟨e,h⟩:=h
 subst e
 cases r
 exact qk ⟨σ,H,I,h⟩
theorem dB {e:Expr}{es:List Expr}{t:TG}{u:TGs}(h1:PG X e t) (h2:PGs X es u)
  (hs:autoParam ((assignEach (e :: es) X.env).map (·.2)=assign e X.env :: (assignEach es X.env).map (·.2)) Rq0._auto_1):PGs X (e :: es) (aM3 t u):=by
 intro pins s σ H vs us Q I r h
 obtain ⟨v,vr,e1,h⟩:=h
 subst e1
 cases r with
 |cons r rr =>
  rw [hs]
  refine jz (bZ (h1 pins s σ H _ _ _ I r h) ?_);rintro _ s1 ⟨σ1,H1,I1,q1⟩
  exact h2 pins s1 σ1 H1 _ _ Q I1 rr q1
def aU2 (K:PySem.W.Frag) (n:Nat) (t:TGs):TG:=fun v σ H Q=>∃ a xs,v= .ref a/\bA K H a xs/\xs.length=n/\t xs σ H Q
theorem nR {es:List Expr}{k:Nat}{t:TGs}{n:Nat}(hc:X.calm=true) (h:PGs X es t)
  (hn:autoParam ((assignEach es X.env).length=n) Rq0._auto_1) (hst:autoParam ((assignEach es X.env).findIdx? (·.1)=none) Rq0._auto_1):PG X (.Tuple es k pos) (aU2 X.K n t):=by
 intro pins s σ H v u Q I r hw
 obtain ⟨a,xs,e1,hq,hl,hw⟩:=hw
 subst e1
 cases r
 obtain ⟨its,rv,ht,hz⟩:=I.tuple hq
 refine assign_Tuple_tuple (I.ok.hd hc) ht (by simp [hn, <- hl,rv.length]) hst fun h' hx=>?_
 have I1:aL X pins σ H { s with heap:=h' }:=I.kept (t':=s.toks) fun b o e=>hx b o (av (al e)) e
 exact h pins _ σ H xs _ Q I1 (by simpa using rv) hw
def aY0 (to ti:TE) (t:TSet):TG:=fun v σ H Q=>to σ H fun o H1=>ti σ H1 fun i H2=>t o i v H2 fun H3=>Q σ H3
theorem qS {o i:Expr}{to ti:TE}{t:TSet}(ho:PE X o to) (hi:PE X i ti) (hs:aQ6 X t)
  (ha:autoParam (∀ v,assign (.Subscript o i pos) X.env v=(do
   let ov <- holding [v] (eval o X.env)
   let iv <- holding [v,ov] (eval i X.env)
   standAt pos
   holding [v,ov,iv] (setItem ov iv v)
   release [v,ov,iv] [])) Rq3._auto_1):PG X (.Subscript o i pos) (aY0 to ti t):=by
 intro pins s σ H v u Q I r h
 rw [ha]
 refine aa (gf (bZ (ho pins s σ H _ I h) ?_));rintro ov s1 ⟨x,H1,I1,r1,q1⟩
 refine aa (gf (bZ (hi pins s1 σ H1 _ I1 q1) ?_));rintro iv s2 ⟨y,H2,I2,r2,q2⟩
 refine aa (ic (aa (gf (bZ (hs pins s2 σ H2 x y v ov iv u _ I2 r1 r2 r q2) ?_))));rintro _ s3 ⟨H3,I3,q3⟩
 exact wpAny_release ⟨σ,H3,I3,q3⟩
def vB (te:TE) (g:TG):TS:=fun D σ H=>te σ H fun x H1=>g x σ H1 D.nx
theorem jS {tg e:Expr}{te:TE}{g:TG}(he:PE X e te) (hg:PG X tg g) (hs:autoParam (swapsWithSole [tg] e pos.line X.env=pure false) Rq0._auto_1) (hw:autoParam (swappedStores [tg] e X.env=pure none) Rq0._auto_1)
  (h1:autoParam ((assignEach [tg] X.env).map (·.2)=[assign tg X.env]) Rq0._auto_1):PS X (.Assign [tg] e pos) (vB te g):=by
 intro pins s σ H D I h
 refine wpAny_Assign_stores (bZ (he pins s σ H _ I h) ?_) hs hw;rintro v s1 ⟨x,H1,I1,r1,q1⟩
 rw [h1]
 exact bZ (hg pins s1 σ H1 x v _ I1 r1 q1) fun _ s2 q=>q
theorem rK {i:Nat}{x:Str}{e:Expr}{te:TE}{pos':Pos}(hN:X.N.Nodup) (hi:X.N[i]?=some x) (hx:zG X.env.scope x) (he:PE X e te) (hs:autoParam (swapsWith e (some (.Name x pos')) pos.line X.env=pure false) Rq0._auto_1) (hf:autoParam (X.fn x=true\/X.env.scope.names.lookup x=some .local) Rq2._auto_1) :
  PS X (.Assign [.Name x pos'] e pos) (vB te (mB i)):=by
 intro pins s σ H D I h
 refine wpAny_Assign_Name (bZ (he pins s σ H _ I h) ?_) hs;rintro v s1 ⟨y,H1,I1,r1,q1⟩
 exact eL I1 hN hi hx r1 (fun s2 I2=>⟨_,H1,I2,q1⟩) hf
def aW4 (i j:Nat) (ta:TA):TS:=fun D σ H=>ta σ H fun vs H1=>∃ v w,vs=[v,w]/\D.nx ((σ.set i (some v)).set j (some w)) H1
theorem wO {i j:Nat}{x y:Str}{a b:Expr}{ta:TA}{px py pt:Pos}{kt k2 pt2} (hc:X.calm=true) (hN:X.N.Nodup) (hi:X.N[i]?=some x) (hj:X.N[j]?=some y) (hij:i≠j)
  (hx:X.env.scope.names.lookup x=some .local) (hy:X.env.scope.names.lookup y=some .local) (ha:PA X [a,b] ta)
  (hw:swappedStores [.Tuple [.Name x px,.Name y py] kt pt] (.Tuple [a,b] k2 pt2) X.env=pure (some [x,y]))
  (hs:autoParam (swapsWithSole [.Tuple [.Name x px,.Name y py] kt pt] (.Tuple [a,b] k2 pt2) pos.line X.env=pure false) Rq0._auto_1) :
  PS X (.Assign [.Tuple [.Name x px,.Name y py] kt pt] (.Tuple [a,b] k2 pt2) pos) (aW4 i j ta):=by
 intro pins s σ H D I h
 rw [exec_Assign_arm]
 refine aa (ic ?_)
 rw [hs]
 refine aa (am ?_)
 rw [ar (by decide)]
 refine aa (Tuple_ (bZ (ha _ pins s σ H _ I h) ?_));rintro us s1 ⟨vs,H1,I1,r1,q1⟩
 obtain ⟨v,w,e1,q1⟩:=q1
 subst e1
 obtain ⟨u1,u2,rfl,rv,rw'⟩:∃ u1 u2,us=[u1,u2]/\bG v u1/\bG w u2:=by
  cases r1 with
  |cons p q =>
   cases q with
   |cons p' q' =>
    cases q'
    exact ⟨_,_,rfl,p,p'⟩
 refine gt ?_ (by show 2<=sizeLine;decide)
 have I2:aL X pins σ H1 { s1 with heap:=s1.heap.push { cls:= .type "tuple",data:= .seq [u1,u2].toArray } }:=I1.kept (t':=s1.toks) fun b o e=>af _ e
 rw [hw]
 refine aa (am ?_)
 show wpAny (model X.prog X.w) X.A (do rule "assign.swapped-stores";let items <- unpackItems (.ref s1.heap.objs.size) 2 none;assignInOrder [fun v=>bindName X.env y v,fun v=>bindName X.env x v] items.reverse;pure Flow.next) _ _ _
 refine aa (wpAny_rule (aa (unpackItems_tuple (items:= #[u1,u2]) (I.ok.hd hc) (IsTup.new s1.heap _) fun h' hx'=>?_)))
 have I3:=I2.kept (h':=h') (t':=s1.toks) fun b o e=>hx' b o (av (al e)) e
 show wpAny _ _ (assignInOrder [fun v=>bindName X.env y v,fun v=>bindName X.env x v] [u2,u1] >>= fun _=>pure Flow.next) _ _ _
 refine aa (jz (nq (eL I3 hN hj (.inl hy) rw' (fun s2 I4=>?_) (.inr hy))))
 refine jz (nq (eL I4 hN hi (.inl hx) rv (fun s3 I5=>qk (am ?_)) (.inr hx)))
 rw [List.set_comm _ _ (Ne.symm hij)] at I5
 exact ⟨_,H1,I5,q1⟩
def aX0 (i:Nat) (te:TE) (ti:TIp):TS:=fun D σ H=>∃ x,σ[i]?=some (some x)/\te σ H fun y H1=>ti x y H1 fun z H2=>D.nx (σ.set i (some z)) H2
theorem aI7 {i:Nat}{x:Str}{e:Expr}{te:TE}{op:Operator}{ti:TIp}{pos':Pos}(hN:X.N.Nodup) (hi:X.N[i]?=some x) (hx:zG X.env.scope x) (he:PE X e te) (ho:PIp X op ti) (hf:autoParam (X.fn x=true\/X.env.scope.names.lookup x=some .local) Rq2._auto_1) :
  PS X (.AugAssign (.Name x pos') op e pos) (aX0 i te ti):=by
 intro pins s σ H D I h
 obtain ⟨v,e1,h⟩:=h
 obtain ⟨m,hn,hl⟩:=I.loc
 have vis:Vis X.env.scope x:=by rcases hx with k | k;exact .inl k;exact .inr (.inl k)
 obtain ⟨u,r,l⟩:=hl i x v hi e1 vis
 refine wpAny_AugAssign_Name ?_
 have go:wpAny (model X.prog X.w) X.A (eval e X.env) (fun w s₂=>wpAny (model X.prog X.w) X.A (inplaceOp op u w) (fun r s₃=>wpAny (model X.prog X.w) X.A (storeName X.env x r) (fun _=>SP X pins D .next) X.xe s₃) X.xe s₂) X.xe s:=by
  refine bZ (he pins s σ H _ I h) ?_;rintro w s1 ⟨y,H1,I1,r1,q1⟩
  refine bZ (ho pins s1 σ H1 v y u w _ I1 r r1 q1) ?_;rintro z s2 ⟨zv,H2,I2,r2,q2⟩
  exact eL I2 hN hi hx r2 (fun s3 I3=>⟨_,H2,I3,q2⟩) hf
 rcases l with ⟨hk,hm⟩ | ⟨hk,c,hc,hcell⟩
 ·exact oi I.ok.kind hk hn hm go
 ·rcases hk with hk | hk
  ·exact ou I.ok.kind hk hc hcell go
  ·rcases hx with k | k
   ·have:X.env.scope.names.lookup x=some .free:=hk
    rw [k] at this;cases this
   ·have:X.env.scope.names.lookup x=some .free:=hk
    rw [k] at this;cases this
def ipI (f:Int->Int->Int):TIp:=fun x y H Q=>∃ i j,x= .int i/\y= .int j/\Q (.int (f i j)) H
theorem aK0:PIp X .Add (ipI fun i j=>i+j):=by
 intro pins s σ H x y v u Q I r1 r2 h
 obtain ⟨i,j,e1,e2,q⟩:=h
 subst e1;subst e2
 obtain ⟨t,rfl⟩:=r1
 obtain ⟨t',rfl⟩:=r2
 exact iadd_int ⟨.int _,H,I.tok _,⟨_,rfl⟩,q⟩
def aL7 (c:TT) (tb:TS):TS:=fun D σ H=>∃ W:Nat->St->Hp->Prop,(∃ m,W m σ H)/\∀ m σ H,W m σ H ->
 c σ H fun b H1=>if b=true then ∃ N:St->Hp->Prop,(∀ σ' H',N σ' H'->∃ m',m' < m/\W m' σ' H')/\tb { D with nx:=N,ct:=N,bk:=D.nx } σ H1 else D.nx σ H1
theorem gK {c:Expr}{body:List Stmt}{tc:TT}{tb:TS}(hp:PassesOwn (model X.prog X.w) X.A X.env X.xe) (hc:PT X c tc) (hb:kE X body tb):PS X (.While c body [] pos) (aL7 tc tb):=by
 intro pins s σ H D I h
 obtain ⟨W,⟨m0,w0⟩,turn⟩:=h
 refine wpAny_While (codeAny_whileLoop (fun n s'=>∃ σ' H',aL X pins σ' H' s'/\W n σ' H') ?_ m0 ⟨σ,H,I,w0⟩)
 rintro n s1 ⟨σ1,H1,I1,w1⟩
 refine gc hp (bZ (hc pins s1 σ1 H1 _ I1 (turn n σ1 H1 w1)) ?_);rintro b s2 ⟨H2,I2,q2⟩
 cases b with
 |true =>
  obtain ⟨N,hN,q2⟩:=q2
  rw [bj rfl]
  refine gc hp (bZ (hb pins s2 σ1 H2 _ I2 q2) fun f s3 q3=>?_)
  cases f with
  |next =>
   obtain ⟨σ3,H3,I3,n3⟩:=q3
   obtain ⟨m',hm,w3⟩:=hN σ3 H3 n3
   exact ⟨m',hm,σ3,H3,I3,w3⟩
  |cont =>
   obtain ⟨σ3,H3,I3,n3⟩:=q3
   obtain ⟨m',hm,w3⟩:=hN σ3 H3 n3
   exact ⟨m',hm,σ3,H3,I3,w3⟩
  |brk=>exact q3
  |ret v=>exact q3
 |false =>
  rw [ar ba]
  exact ik ⟨σ1,H2,I2,q2⟩
end
structure It where
 go:Nat->Hp->Prop
 yld:Nat->Hp->V->Hp->Prop
 stop:Nat->Hp->Prop
def gB (X:Cx) (pins:List (Addr×Obj)) (H:Hp) (b:Addr):Prop :=
 H b=none/\b≠X.env.locals/\b∉X.fs/\(b∈X.ex\/X.s₀.heap.objs.size<=b)/\(∀ x c,X.env.cells.lookup x=some c->c≠b)/\∀ p∈X.pn++pins,p.1≠b
theorem aL.fpOk {X:Cx}{pins:List (Addr×Obj)}{σ: St}{H H':Hp}{s:Shared}{b:Addr}(I:aL X pins σ H s) (hb:s.heap.objs.size<=b) (hn:H' b=none):gB X pins H' b:=by
 refine ⟨hn,fu (ai I.lt hb),I.nofs hb,.inr (aj I.sz hb),fun x c e z=>?_,fun p hp z=>?_⟩
 ·obtain ⟨v,q⟩:=I.cell x c e
  exact absurd (ai q.lt (by rw [z];exact hb)) (di _)
 ·exact absurd (ai (al (I.pin p hp).1) (by rw [z];exact hb)) (di _)
structure rB (P:Program) (w:World) (K:PySem.W.Frag) (tg:Expr) (J:It) (fp:List Addr) (it:Addr) (tn:Nat->Heap->Prop):Prop where
 mem:it∈fp
 obj:∀ i h,tn i h->∀ b∈fp,∃ o,h.get? b=some o/\∀ v,o.data≠ .cell v
 keep:∀ i h h',tn i h->(∀ b∈fp,∀ o,h.get? b=some o->h'.get? b=some o)->tn i h'
 item:∀ (X:Cx),X.prog=P->X.w=w->X.K=K->X.calm=true->∀ (i:Nat) (pins:List (Addr×Obj)) (s:Shared) (σ: St) (H:Hp) (E:Value->Shared->Prop),aL X pins σ H s->(∀ b∈fp,gB X pins H b)->tn i s.heap->J.go i H ->
  wpAny (model P w) X.A (pyNext (.ref it)) (fun r s1=>∃ u,r=some u /\
   wpAny (model P w) X.A (letOwnedTupleGo tg (.ref it) u) (fun _ s2=>∃ x H',aL X pins σ H' s2/\bG x u/\J.yld i H x H'/\tn (i+1) s2.heap/\∀ b∈fp,H' b=none) E s1) E s
 done:∀ (X:Cx),X.prog=P->X.w=w->X.K=K->X.calm=true->∀ (i:Nat) (pins:List (Addr×Obj)) (s:Shared) (σ: St) (H:Hp) (E:Value->Shared->Prop),aL X pins σ H s->(∀ b∈fp,gB X pins H b)->tn i s.heap->J.stop i H ->
  wpAny (model P w) X.A (pyNext (.ref it)) (fun r s1=>r=none/\aL X pins σ H s1) E s
 self:∀ (A:Around) (i:Nat) (s:Shared) (Q:Value->Shared->Prop) (E:Value->Shared->Prop),tn i s.heap->Q (.ref it) s->wpAny (model P w) A (pyIter (.ref it)) Q E s
abbrev TI:=St->Hp->(It->Hp->Prop)->Prop
def PIE (X:Cx) (pins:List (Addr×Obj)) (σ: St) (tg:Expr) (R:It->Hp->Prop) (itv:Value) (s2:Shared):Prop :=
 ∃ (it:Addr) (fp:List Addr) (tn:Nat->Heap->Prop) (J:It) (H':Hp),itv= .ref it/\aL X pins σ H' s2/\rB X.prog X.w X.K tg J fp it tn/\tn 0 s2.heap/\(∀ b∈fp,gB X pins H' b)/\R J H'
def PI (X:Cx) (tg iter:Expr) (wi:TI):Prop :=
 ∀ (pins:List (Addr×Obj)) (s:Shared) (σ: St) (H:Hp) (R:It->Hp->Prop),aL X pins σ H s->wi σ H R ->
  wpAny (model X.prog X.w) X.A (eval iter X.env) (fun v s1=>wpAny (model X.prog X.w) X.A (pyIter v) (PIE X pins σ tg R) X.xe s1) X.xe s
theorem go_of {M : Model}{A : Around}{E : Value -> Shared -> Prop}{s : Shared}{tg : Expr}{it : Addr}{u : Value}{o : Obj}{n : String}{vs : Array Value}{Q : Unit -> Shared -> Prop}(ho : s.heap.get? it = some o) (hc : o.cls = .type n) (hd : o.data = .fields vs)
    (hn : ["enumerate", "zip", "dict_itemiterator", "dict_reverseitemiterator", "odict_iterator", "itertools.zip_longest", "itertools.pairwise"].contains n = false) (hQ : Q () s) : wpAny M A (letOwnedTupleGo tg (.ref it) u) Q E s := by
  unfold letOwnedTupleGo
  cases tg <;> first
    | exact am hQ
    | (cases u <;> first
        | exact am hQ
        | (refine aa (wpAny_load ho ?_)
           rw [hc, hd]
           show wpAny M A (if (["enumerate", "zip", "dict_itemiterator", "dict_reverseitemiterator", "odict_iterator", "itertools.zip_longest", "itertools.pairwise"].contains n && vs[0]? == some (rawInt _)) = true then _ else _) Q E s
           rw [ar (by intro h; rw [hn, Bool.false_and] at h; cases h)]
           exact am hQ))
def uW (K:PySem.W.Frag) (a:Addr):It :=
 ⟨fun i H=>∃ xs x,bH K H a xs/\xs[i]?=some x,fun i H x H'=>H'=H/\∀ xs,bH K H a xs->xs[i]?=some x,fun i H=>∃ xs,bH K H a xs/\xs.length<=i⟩
def uV (K:PySem.W.Frag) (a:Addr):It :=
 ⟨fun i H=>∃ xs x,bA K H a xs/\xs[i]?=some x,fun i H x H'=>H'=H/\∀ xs,bA K H a xs->xs[i]?=some x,fun i H=>∃ xs,bA K H a xs/\xs.length<=i⟩
def sD (lo:Int) (n:Nat):It:=⟨fun i _=>i < n,fun i H x H'=>H'=H/\x= .int (lo+i),fun i _=>n<=i⟩
theorem uO {P:Program}{w:World}{K:PySem.W.Frag}{tg:Expr}(a it:Addr):rB P w K tg (uW K a) [it] it (fun i h=>h.IsListIter it a i) where
 mem:=by simp
 obj:=fun i h st b hb=>by
  have e:b=it:=by simpa using hb
  subst e
  obtain ⟨o,e,c,d⟩:=st
  exact ⟨o,e,fun v z=>by rw [d] at z;cases z⟩
 keep:=fun i h h' st k=>st.at fun o e=>k it (by simp) o e
 item:=by
  intro X hP hw hK hc i pins s σ H E I hf st hg
  subst hP hw hK
  obtain ⟨xs,x,hq,hx⟩:=hg
  obtain ⟨its,rv,p,hz⟩:=I.list hq
  obtain ⟨u,hu,ru⟩:=rv.get hx
  obtain ⟨f0,f1,f2,f3,f4,f5⟩:=hf it (by simp)
  refine wpAny_pyNext_list_item st p.isList (x:=u) (by simpa using hu) fun h' st' sb=>?_
  have I1:aL X pins σ H { s with heap:=h' }:=I.turned (t':=s.toks) (fun b o hb e=>(sb.2 b hb).trans e) f0 f1 f3 f4 f5
  obtain ⟨o,e,c,d⟩:=id st'
  exact ⟨u,rfl,go_of (s:={ s with heap:=h' }) e c d (by decide) ⟨x,H,I1,ru,⟨rfl,fun ys hy=>by rw [I.list_inj hy hq];exact hx⟩,st',fun b hb=>(hf b hb).1⟩⟩
 done:=by
  intro X hP hw hK hc i pins s σ H E I hf st hg
  subst hP hw hK
  obtain ⟨xs,hq,hx⟩:=hg
  obtain ⟨its,rv,p,hz⟩:=I.list hq
  obtain ⟨f0,f1,f2,f3,f4,f5⟩:=hf it (by simp)
  have hl:=rv.length
  exact wpAny_pyNext_list_end (I.ok.hd hc) st p.isList (by simp;omega) fun h' eb=>⟨rfl,I.turned (t':=s.toks) (fun b o hb e=>eb b o hb e) f0 f1 f3 f4 f5⟩
 self:=fun _ _ _ _ _ st h=>wpAny_pyIter_listiter st h
theorem rO {P:Program}{w:World}{K:PySem.W.Frag}{tg:Expr}(a it:Addr):rB P w K tg (uV K a) [it] it (fun i h=>h.IsTupleIter it a i) where
 mem:=by simp
 obj:=fun i h st b hb=>by
  have e:b=it:=by simpa using hb
  subst e
  obtain ⟨o,e,c,d⟩:=st
  exact ⟨o,e,fun v z=>by rw [d] at z;cases z⟩
 keep:=fun i h h' st k=>st.at fun o e=>k it (by simp) o e
 item:=by
  intro X hP hw hK hc i pins s σ H E I hf st hg
  subst hP hw hK
  obtain ⟨xs,x,hq,hx⟩:=hg
  obtain ⟨its,rv,p,hz⟩:=I.tuple hq
  obtain ⟨u,hu,ru⟩:=rv.get hx
  obtain ⟨f0,f1,f2,f3,f4,f5⟩:=hf it (by simp)
  refine wpAny_pyNext_tuple_item st (show s.heap.IsTuple a its.toArray from p) (x:=u) (by simpa using hu) fun h' st' sb=>?_
  have I1:aL X pins σ H { s with heap:=h' }:=I.turned (t':=s.toks) (fun b o hb e=>(sb.2 b hb).trans e) f0 f1 f3 f4 f5
  obtain ⟨o,e,c,d⟩:=id st'
  exact ⟨u,rfl,go_of (s:={ s with heap:=h' }) e c d (by decide) ⟨x,H,I1,ru,⟨rfl,fun ys hy=>by rw [I.tuple_inj hy hq];exact hx⟩,st',fun b hb=>(hf b hb).1⟩⟩
 done:=by
  intro X hP hw hK hc i pins s σ H E I hf st hg
  subst hP hw hK
  obtain ⟨xs,hq,hx⟩:=hg
  obtain ⟨its,rv,p,hz⟩:=I.tuple hq
  obtain ⟨f0,f1,f2,f3,f4,f5⟩:=hf it (by simp)
  have hl:=rv.length
  exact wpAny_pyNext_tuple_end (I.ok.hd hc) st (show s.heap.IsTuple a its.toArray from p) (by simp;omega) fun h' eb=>⟨rfl,I.turned (t':=s.toks) (fun b o hb e=>eb b o hb e) f0 f1 f3 f4 f5⟩
 self:=fun _ _ _ _ _ st h=>wpAny_pyIter_tupleiter st h
theorem rC {P:Program}{w:World}{K:PySem.W.Frag}{tg:Expr}(it:Addr) (lo:Int) (n:Nat):rB P w K tg (sD lo n) [it] it (fun i h=>IsRangeIter h it (lo+(i:Nat) * 1) ((n:Int) - (i:Nat)) 1) where
 mem:=by simp
 obj:=fun i h st b hb=>by
  have e:b=it:=by simpa using hb
  subst e
  exact ⟨_,st,fun v z=>by
   have z':Data.fields _=Data.cell v:=z
   cases z'⟩
 keep:=fun i h h' st k=>k it (by simp) _ st
 item:=by
  intro X hP hw hK hc i pins s σ H E I hf st hg
  subst hP hw hK
  obtain ⟨f0,f1,f2,f3,f4,f5⟩:=hf it (by simp)
  have W:=Walks.range (prog:=X.prog) (w:=X.w) (I.ok.hd hc) it lo 1 n
  refine W.item i s _ _ hg st fun v h' tk hv st' kk=>?_
  obtain ⟨t,rfl⟩:=hv
  have I1:aL X pins σ H { s with heap:=h',toks:=tk }:=I.turned (fun b o hb e=>kk b o (by simpa using hb) e) f0 f1 f3 f4 f5
  refine ⟨_,rfl,go_of (s:={ s with heap:=h',toks:=tk }) (n:="range_iterator") st' rfl rfl (by decide) ⟨.int (lo+i),H,I1,⟨t,?_⟩,⟨rfl,rfl⟩,st',fun b hb=>(hf b hb).1⟩⟩
  rw [Int.mul_one]
 done:=by
  intro X hP hw hK hc i pins s σ H E I hf st hg
  subst hP hw hK
  obtain ⟨f0,f1,f2,f3,f4,f5⟩:=hf it (by simp)
  exact wpAny_pyNext_range_end (I.ok.hd hc) st (by have:n<=i:=hg;omega) fun h' eb=>⟨rfl,I.turned (t':=s.toks) (fun b o hb e=>eb b o hb e) f0 f1 f3 f4 f5⟩
 self:=fun _ _ _ _ _ st h=>wpAny_pyIter_rangeiter st h
section
variable {X:Cx}{tg:Expr}
def aB7 (K:PySem.W.Frag) (tl:TE):TI:=fun σ H R=>tl σ H fun x H1=>∃ a,x= .ref a/\(∃ xs,bH K H1 a xs)/\R (uW K a) H1
def aW9 (K:PySem.W.Frag) (tl:TE):TI:=fun σ H R=>tl σ H fun x H1=>∃ a,x= .ref a/\(∃ xs,bA K H1 a xs)/\R (uV K a) H1
theorem dE {l:Expr}{tl:TE}(hl:PE X l tl):PI X tg l (aB7 X.K tl):=by
 intro pins s σ H R I h
 refine bZ (hl pins s σ H _ I h) ?_;rintro v s1 ⟨x,H1,I1,r1,q1⟩
 obtain ⟨a,e,⟨xs,hq⟩,q⟩:=q1
 subst e
 cases r1
 obtain ⟨its,rv,p,hz⟩:=I1.list hq
 refine qm p.isList ?_
 refine ⟨s1.heap.objs.size,[s1.heap.objs.size],_,_,H1,rfl,I1.kept (t':=s1.toks) fun b o e=>af _ e,uO a _,⟨_,bn _ rfl,rfl,rfl⟩,fun b hb=>?_,q⟩
 have e:b=s1.heap.objs.size:=by simpa using hb
 subst e
 exact I1.fpOk (ae _) (I1.hok.fresh (ae _))
theorem fB {l:Expr}{tl:TE}(hl:PE X l tl):PI X tg l (aW9 X.K tl):=by
 intro pins s σ H R I h
 refine bZ (hl pins s σ H _ I h) ?_;rintro v s1 ⟨x,H1,I1,r1,q1⟩
 obtain ⟨a,e,⟨xs,hq⟩,q⟩:=q1
 subst e
 cases r1
 obtain ⟨its,rv,p,hz⟩:=I1.tuple hq
 refine wpAny_pyIter_tuple (show s1.heap.IsTuple a its.toArray from p) ?_
 refine ⟨s1.heap.objs.size,[s1.heap.objs.size],_,_,H1,rfl,I1.kept (t':=s1.toks) fun b o e=>af _ e,rO a _,⟨_,bn _ rfl,rfl,rfl⟩,fun b hb=>?_,q⟩
 have e:b=s1.heap.objs.size:=by simpa using hb
 subst e
 exact I1.fpOk (ae _) (I1.hok.fresh (ae _))
theorem pC {pins:List (Addr×Obj)}{σ: St}{H:Hp}{s:Shared}{R:It->Hp->Prop}{E:Value->Shared->Prop}{lo hi:Int}{t u v:Tok}{tk:Nat}(I:aL X pins σ H s) (h1: -(2 ^ 62)<=lo) (h2:lo < 2 ^ 62) (h3: -(2 ^ 62)<=hi) (h4:hi < 2 ^ 62)
  (q:R (sD lo (hi - lo).toNat) H):wpAny (model X.prog X.w) X.A (pyIter (.ref s.heap.objs.size)) (PIE X pins σ tg R) E { s with heap:=s.heap.push { cls:= .type "range",data:= .fields #[.int lo t,.int hi u,.int 1 v] },toks:=tk }:=by
 refine wpAny_pyIter_range (IsRange.new ..) (small_one h1 h2 h3 h4) ?_
 have I1:aL X pins σ H { s with heap:=s.heap.push { cls:= .type "range",data:= .fields #[.int lo t,.int hi u,.int 1 v] },toks:=tk }:=I.kept fun b o e=>af _ e
 refine ⟨(s.heap.push { cls:= .type "range",data:= .fields #[.int lo t,.int hi u,.int 1 v] }).objs.size,[(s.heap.push { cls:= .type "range",data:= .fields #[.int lo t,.int hi u,.int 1 v] }).objs.size],_,_,H,rfl,
  I1.kept (t':=tk) fun b o e=>af _ e,rC _ lo (hi - lo).toNat,?_,fun b hb=>?_,q⟩
 ·have e1:lo+((0:Nat):Int) * 1=lo:=by simp
  have e2:(((hi - lo).toNat:Nat):Int) - ((0:Nat):Int)=Builtin.Range.rangeSize lo hi 1:=by rw [rangeSize_one];split <;> omega
  show IsRangeIter _ _ (lo+((0:Nat):Int) * 1) ((((hi - lo).toNat:Nat):Int) - ((0:Nat):Int)) 1
  rw [e1,e2]
  exact bn _ rfl
 ·have e:b=(s.heap.push { cls:= .type "range",data:= .fields #[.int lo t,.int hi u,.int 1 v] }).objs.size:=by simpa using hb
  subst e
  exact I1.fpOk (ae _) (I1.hok.fresh (ae _))
def aS2 (ta:TA):TI:=fun σ H R=>ta σ H fun vs H1=>∃ j:Int,vs=[.int j]/\ -(2 ^ 62)<=j/\j < 2 ^ 62/\R (sD 0 j.toNat) H1
def aR3 (ta:TA):TI:=fun σ H R=>ta σ H fun vs H1=>∃ i j:Int,vs=[.int i,.int j]/\(-(2 ^ 62)<=i/\i < 2 ^ 62/\ -(2 ^ 62)<=j/\j < 2 ^ 62)/\R (sD i (j - i).toNat) H1
theorem bV {a:Expr}{ta:TA}{p pos:Pos}(hg:Gl X "range") (hm:X.mg "range"=none) (ha:PA X [a] ta) (hs:autoParam (starEach [a] X.env=[(false,eval a X.env)]) Rq0._auto_1):PI X tg (.Call (.Name "range" p) [a] [] pos) (aS2 ta):=by
 intro pins s σ H R I h
 refine Call_ (iN I hg hm boot_range (fv (bZ (ha pos pins s σ H _ I h) ?_) hs rfl));rintro us s1 ⟨vs,H1,I1,r1,q1⟩
 obtain ⟨j,e,q1,q2,q⟩:=q1
 subst e
 cases r1 with
 |cons r rr =>
  cases rr
  obtain ⟨t,rfl⟩:=r
  exact call_range_1 (pC I1 (by omega) (by omega) q1 q2 (by simpa using q))
theorem tE {a b:Expr}{ta:TA}{p pos:Pos}(hg:Gl X "range") (hm:X.mg "range"=none) (ha:PA X [a,b] ta) (hs:autoParam (starEach [a,b] X.env=[(false,eval a X.env),(false,eval b X.env)]) Rq0._auto_1) (hs2:autoParam (starEach [b] X.env=[(false,eval b X.env)]) Rq0._auto_1) :
  PI X tg (.Call (.Name "range" p) [a,b] [] pos) (aR3 ta):=by
 intro pins s σ H R I h
 refine Call_ (iN I hg hm boot_range (fv (bZ (ha pos pins s σ H _ I h) fun us s1 ⟨vs,H1,I1,r1,q1⟩=>?_) (by rw [hs,hs2]) (by rw [hs2];rfl)))
 obtain ⟨i,j,e,⟨q1,q2,q3,q4⟩,q⟩:=q1
 subst e
 cases r1 with
 |cons r rr =>
  cases rr with
  |cons r' rr =>
   cases rr
   obtain ⟨t,rfl⟩:=r
   obtain ⟨t',rfl⟩:=r'
   exact call_range_2 (pC I1 q1 q2 q3 q4 q)
def aN4 (wi:TI) (g:TG) (tb:TS):TS:=fun D σ H=>wi σ H fun J H1=>∃ W:Nat->Nat->St->Hp->Prop,(∃ m,W 0 m σ H1)/\∀ i m σ H,W i m σ H ->
 (J.stop i H/\D.nx σ H)\/(J.go i H/\∃ N:St->Hp->Prop,(∀ σ' H',N σ' H'->∃ m',m' < m/\W (i+1) m' σ' H')/\∀ x H',J.yld i H x H'->g x σ H' fun σ2 H2=>tb { D with nx:=N,ct:=N,bk:=D.nx } σ2 H2)
def cI (fp:List Addr) (h:Heap):List (Addr×Obj):=fp.filterMap fun b=>(h.get? b).map fun o=>(b,o)
theorem cK {fp:List Addr}{h:Heap}{b:Addr}{o:Obj}(hb:b∈fp) (e:h.get? b=some o):(b,o)∈cI fp h:=gm.mpr ⟨b,hb,by rw [e];rfl⟩
theorem jN {fp:List Addr}{h:Heap}{p:Addr×Obj}(hp:p∈cI fp h):p.1∈fp/\h.get? p.1=some p.2:=by
 obtain ⟨b,hb,e⟩:=gm.mp hp
 cases q:h.get? b with
 |none=>rw [q] at e;cases e
 |some o =>
  rw [q] at e
  have e':(b,o)=p:=ci e
  subst e'
  exact ⟨hb,q⟩
theorem aL.pinned {pins:List (Addr×Obj)}{σ: St}{H:Hp}{s:Shared}{fp:List Addr}(I:aL X pins σ H s) (hf:∀ b∈fp,gB X pins H b) (ho:∀ b∈fp,∃ o,s.heap.get? b=some o/\∀ v,o.data≠ .cell v):aL X (pins++cI fp s.heap) σ H s :=
 I.pins_of fun p hp=>(dj.mp hp).elim (fun z=>I.pin p (bc _ z)) fun z=>by
  obtain ⟨hb,e⟩:=jN z
  obtain ⟨f0,f1,f2,_⟩:=hf p.1 hb
  obtain ⟨o,e',d⟩:=ho p.1 hb
  rw [e] at e';cases e'
  exact ⟨e,f0,f1,f2,d⟩
theorem aL.unpinned {pins pl:List (Addr×Obj)}{σ: St}{H:Hp}{s:Shared}(I:aL X (pins++pl) σ H s):aL X pins σ H s:=I.pins_of fun p hp=>I.pin p (bc _ (er _ hp))
theorem aJ5 {iter:Expr}{body:List Stmt}{wi:TI}{g:TG}{tb:TS}{pos:Pos}(hp:PassesOwn (model X.prog X.w) X.A X.env X.xe) (hc:X.calm=true) (hi:PI X tg iter wi) (hg:PG X tg g) (hb:kE X body tb)
  (hs:autoParam (∀ x,foldedSetIterable iter X.env x=pure x) Rq3._auto_1):PS X (.For tg iter body [] pos) (aN4 wi g tb):=by
 intro pins s σ H D I h
 refine wpAny_For (bZ (hi pins s σ H _ I h) fun v s1 h1=>bZ h1 fun itv s2 h2=>?_) hs
 obtain ⟨it,fp,tn,J,H2,e,I2,T,st2,f2,W,⟨m0,w0⟩,turn⟩:=h2
 subst e
 have stat:∀ {H':Hp},(∀ b∈fp,H' b=none)->∀ b∈fp,gB X pins H' b:=fun hn b hb=>⟨hn b hb,(f2 b hb).2⟩
 refine codeAny_forLoop_any (fun n s'=>∃ i σ' H',aL X pins σ' H' s'/\tn i s'.heap/\(∀ b∈fp,H' b=none)/\W i n σ' H') ?_ m0 ⟨0,σ,H2,I2,st2,fun b hb=>(f2 b hb).1,w0⟩
 rintro n s3 ⟨i,σ3,H3,I3,st3,fr3,w3⟩
 rcases turn i n σ3 H3 w3 with ⟨stop,qn⟩ | ⟨go,N,hN,step⟩
 ·refine gc hp (bZ (T.done X rfl rfl rfl hc i pins s3 σ3 H3 X.xe I3 (stat fr3) st3 stop) ?_);rintro r s4 ⟨hr,I4⟩
  subst hr
  exact ik ⟨σ3,H3,I4,qn⟩
 ·refine gc hp (bZ (T.item X rfl rfl rfl hc i pins s3 σ3 H3 X.xe I3 (stat fr3) st3 go) ?_);rintro r s4 ⟨u,hr,h4⟩
  subst hr
  refine gc hp (bZ h4 ?_);rintro _ s5 ⟨x,H5,I5,r5,y5,st5,fr5⟩
  have I5':=I5.pinned (stat fr5) (T.obj _ _ st5)
  refine gc hp (bZ (hg _ s5 σ3 H5 x u _ I5' r5 (step x H5 y5)) ?_);rintro _ s6 ⟨σ6,H6,I6,q6⟩
  refine gc hp (bZ (hb _ s6 σ6 H6 _ I6 q6) fun f s7 q7=>?_)
  have again:∀ {σ7:St}{H7:Hp},aL X (pins++cI fp s5.heap) σ7 H7 s7->N σ7 H7->∃ m,m < n/\∃ i σ' H',aL X pins σ' H' s7/\tn i s7.heap/\(∀ b∈fp,H' b=none)/\W i m σ' H':=fun {σ7 H7} I7 n7=>by
   obtain ⟨m',hm,w7⟩:=hN σ7 H7 n7
   refine ⟨m',hm,i+1,σ7,H7,I7.unpinned,T.keep _ _ _ st5 fun b hb o e=>(I7.pin (b,o) (bc _ (bc _ (cK hb e)))).1,fun b hb=>?_,w7⟩
   obtain ⟨o,e,d⟩:=T.obj _ _ st5 b hb
   exact (I7.pin (b,o) (bc _ (bc _ (cK hb e)))).2.1
  cases f with
  |next=>obtain ⟨σ7,H7,I7,n7⟩:=q7;exact again I7 n7
  |cont=>obtain ⟨σ7,H7,I7,n7⟩:=q7;exact again I7 n7
  |brk=>obtain ⟨σ7,H7,I7,q7⟩:=q7;exact ⟨σ7,H7,I7.unpinned,q7⟩
  |ret v=>obtain ⟨x7,σ7,H7,I7,r7,q7⟩:=q7;exact ⟨x7,σ7,H7,I7.unpinned,r7,q7⟩
end
theorem wH {K:PySem.W.Frag}{a:Addr}{xs:List V}{g:TG}{tb:TS}{D:dQ}{σ: St}{H:Hp}(Pv:Nat->St->Hp->Prop) (h0:Pv 0 σ H) (hl:∀ i σ H,i<=xs.length->Pv i σ H->bH K H a xs)
  (hs:∀ i x σ H,xs[i]?=some x->Pv i σ H->g x σ H fun σ2 H2=>tb { D with nx:=Pv (i+1),ct:=Pv (i+1),bk:=D.nx } σ2 H2) (hd:∀ σ H,Pv xs.length σ H->D.nx σ H) :
  ∃ W:Nat->Nat->St->Hp->Prop,(∃ m,W 0 m σ H)/\∀ i m σ H,W i m σ H ->
   ((uW K a).stop i H/\D.nx σ H)\/((uW K a).go i H/\∃ N:St->Hp->Prop,(∀ σ' H',N σ' H'->∃ m',m' < m/\W (i+1) m' σ' H')/\∀ x H',(uW K a).yld i H x H'->g x σ H' fun σ2 H2=>tb { D with nx:=N,ct:=N,bk:=D.nx } σ2 H2):=by
 refine ⟨fun i m σ H=>m=xs.length - i/\i<=xs.length/\Pv i σ H,⟨xs.length,by simp,bh _,h0⟩,?_⟩
 rintro i m σ H ⟨rfl,hi,p⟩
 have q:=hl i σ H hi p
 by_cases hlt:i < xs.length
 ·refine .inr ⟨⟨xs,xs[i],q,by simp [hlt]⟩,Pv (i+1),fun σ' H' p'=>⟨xs.length - (i+1),fi hlt (dh i),rfl,hlt,p'⟩,fun x H' y=>?_⟩
  obtain ⟨e,y⟩:=y
  subst e
  exact hs i x σ _ (y xs q) p
 ·have e:i=xs.length:=by omega
  subst e
  exact .inl ⟨⟨xs,q,ae _⟩,hd σ H p⟩
theorem zF {K:PySem.W.Frag}{a:Addr}{xs:List V}{g:TG}{tb:TS}{D:dQ}{σ: St}{H:Hp}(Pv:Nat->St->Hp->Prop) (h0:Pv 0 σ H) (hl:∀ i σ H,i<=xs.length->Pv i σ H->bA K H a xs)
  (hs:∀ i x σ H,xs[i]?=some x->Pv i σ H->g x σ H fun σ2 H2=>tb { D with nx:=Pv (i+1),ct:=Pv (i+1),bk:=D.nx } σ2 H2) (hd:∀ σ H,Pv xs.length σ H->D.nx σ H) :
  ∃ W:Nat->Nat->St->Hp->Prop,(∃ m,W 0 m σ H)/\∀ i m σ H,W i m σ H ->
   ((uV K a).stop i H/\D.nx σ H)\/((uV K a).go i H/\∃ N:St->Hp->Prop,(∀ σ' H',N σ' H'->∃ m',m' < m/\W (i+1) m' σ' H')/\∀ x H',(uV K a).yld i H x H'->g x σ H' fun σ2 H2=>tb { D with nx:=N,ct:=N,bk:=D.nx } σ2 H2):=by
 refine ⟨fun i m σ H=>m=xs.length - i/\i<=xs.length/\Pv i σ H,⟨xs.length,by simp,bh _,h0⟩,?_⟩
 rintro i m σ H ⟨rfl,hi,p⟩
 have q:=hl i σ H hi p
 by_cases hlt:i < xs.length
 ·refine .inr ⟨⟨xs,xs[i],q,by simp [hlt]⟩,Pv (i+1),fun σ' H' p'=>⟨xs.length - (i+1),fi hlt (dh i),rfl,hlt,p'⟩,fun x H' y=>?_⟩
  obtain ⟨e,y⟩:=y
  subst e
  exact hs i x σ _ (y xs q) p
 ·have e:i=xs.length:=by omega
  subst e
  exact .inl ⟨⟨xs,q,ae _⟩,hd σ H p⟩
theorem tH {lo:Int}{n:Nat}{g:TG}{tb:TS}{D:dQ}{σ: St}{H:Hp}(Pv:Nat->St->Hp->Prop) (h0:Pv 0 σ H)
  (hs:∀ i σ H,i < n->Pv i σ H->g (.int (lo+i)) σ H fun σ2 H2=>tb { D with nx:=Pv (i+1),ct:=Pv (i+1),bk:=D.nx } σ2 H2) (hd:∀ σ H,Pv n σ H->D.nx σ H) :
  ∃ W:Nat->Nat->St->Hp->Prop,(∃ m,W 0 m σ H)/\∀ i m σ H,W i m σ H ->
   ((sD lo n).stop i H/\D.nx σ H)\/((sD lo n).go i H/\∃ N:St->Hp->Prop,(∀ σ' H',N σ' H'->∃ m',m' < m/\W (i+1) m' σ' H')/\∀ x H',(sD lo n).yld i H x H'->g x σ H' fun σ2 H2=>tb { D with nx:=N,ct:=N,bk:=D.nx } σ2 H2):=by
 refine ⟨fun i m σ H=>m=n - i/\i<=n/\Pv i σ H,⟨n,by simp,bh _,h0⟩,?_⟩
 rintro i m σ H ⟨rfl,hi,p⟩
 by_cases hlt:i < n
 ·refine .inr ⟨hlt,Pv (i+1),fun σ' H' p'=>⟨n - (i+1),fi hlt (dh i),rfl,hlt,p'⟩,fun x H' y=>?_⟩
  obtain ⟨e,y⟩:=y
  subst e y
  exact hs i σ _ hlt p
 ·have e:i=n:=by omega
  subst e
  exact .inl ⟨ae _,hd σ H p⟩
abbrev R2:=V->V->Hp->VK->Prop
def gD (X:Cx) (f:Value->Value->Sem Value) (r:R2):Prop :=
 ∀ (pins:List (Addr×Obj)) (s:Shared) (σ: St) (H:Hp) (x y:V) (v u:Value) (Q:VK),aL X pins σ H s->bG x v->bG y u->r x y H Q ->
  wpAny (model X.prog X.w) X.A (f v u) (EP X pins σ Q) X.xe s
def UnR (X:Cx) (f:Value->Sem Value) (r:V->Hp->VK->Prop):Prop :=
 ∀ (pins:List (Addr×Obj)) (s:Shared) (σ: St) (H:Hp) (x:V) (v:Value) (Q:VK),aL X pins σ H s->bG x v->r x H Q ->
  wpAny (model X.prog X.w) X.A (f v) (EP X pins σ Q) X.xe s
def gL (X:Cx) (f:Value) (r:List V->Hp->VK->Prop):Prop :=
 ∀ (pins:List (Addr×Obj)) (s:Shared) (σ: St) (H:Hp) (xs:List V) (us:List Value) (Q:VK),aL X pins σ H s->aV xs us->r xs H Q ->
  wpAny (model X.prog X.w) X.A (call f us) (EP X pins σ Q) X.xe s
def aX9 (X:Cx) (r:V->Hp->(Bool->Hp->Prop)->Prop):Prop :=
 ∀ (pins:List (Addr×Obj)) (s:Shared) (σ: St) (H:Hp) (x:V) (v:Value) (Q:Bool->Hp->Prop),aL X pins σ H s->bG x v->r x H Q ->
  wpAny (model X.prog X.w) X.A (truthy v) (TP X pins σ Q) X.xe s
def tOp (r:R2) (ta tb:TE):TE:=fun σ H Q=>ta σ H fun x H1=>tb σ H1 fun y H2=>r x y H2 Q
def tUn (r:V->Hp->VK->Prop) (ta:TE):TE:=fun σ H Q=>ta σ H fun x H1=>r x H1 Q
def rI (C:Int->Int->Prop) (g:Int->Int->V):R2:=fun x y H Q=>∃ i j,x= .int i/\y= .int j/\C i j/\Q (g i j) H
def rI0 (g:Int->Int->V):R2:=fun x y H Q=>∃ i j,x= .int i/\y= .int j/\Q (g i j) H
def rU (g:Int->V):V->Hp->VK->Prop:=fun x H Q=>∃ i,x= .int i/\Q (g i) H
section
variable {X:Cx}{a b c:Expr}{ta tb tc:TE}{pos:Pos}
theorem aG9 (ha:PE X a ta) (hb:PE X b tb) {pins:List (Addr×Obj)}{s:Shared}{σ: St}{H:Hp}{R:V->V->Hp->Prop}(I:aL X pins σ H s)
  (h:ta σ H fun x H1=>tb σ H1 fun y H2=>R x y H2) {Q:Value->Shared->Prop}{f:Value->Value->Sem Value}
  (hf:∀ v u s2 x y H2,aL X pins σ H2 s2->bG x v->bG y u->R x y H2->wpAny (model X.prog X.w) X.A (f v u) Q X.xe s2) :
  wpAny (model X.prog X.w) X.A (eval a X.env) (fun v s₁=>wpAny (model X.prog X.w) X.A (eval b X.env) (fun u s₂=>wpAny (model X.prog X.w) X.A (f v u) Q X.xe s₂) X.xe s₁) X.xe s:=by
 refine bZ (ha pins s σ H _ I h) ?_;rintro v s1 ⟨x,H1,I1,r1,q1⟩
 refine bZ (hb pins s1 σ H1 _ I1 q1) ?_;rintro u s2 ⟨y,H2,I2,r2,q2⟩
 exact hf v u s2 x y H2 I2 r1 r2 q2
theorem aJ {op:Operator}{r:R2}(ho:gD X (binaryOp op) r) (ha:PE X a ta) (hb:PE X b tb):PE X (.BinOp a op b pos) (tOp r ta tb):=by
 intro pins s σ H Q I h
 exact wpAny_BinOp (aG9 ha hb I h fun v u s2 x y H2 I2 rx ry q=>ho pins s2 σ H2 x y v u Q I2 rx ry q)
theorem wC {op:UnaryOp}{r:V->Hp->VK->Prop}(ho:UnR X (unaryOp op) r) (ha:PE X a ta):PE X (.UnaryOp op a pos) (tUn r ta):=by
 intro pins s σ H Q I h
 refine UnaryOp_ (bZ (ha pins s σ H _ I h) ?_);rintro v s1 ⟨x,H1,I1,r1,q1⟩;exact ho pins s1 σ H1 x v Q I1 r1 q1
theorem opI {f:Value->Value->Sem Value}{C:Int->Int->Prop}{g:Int->Int->Int}
  (rule:∀ (i j:Int) (t u:Tok) (s:Shared) (Q:Value->Shared->Prop) (E:Value->Shared->Prop),C i j->Q (.int (g i j) s.toks) { s with toks:=s.toks+1 }->wpAny (model X.prog X.w) X.A (f (.int i t) (.int j u)) Q E s) :
  gD X f (rI C fun i j=> .int (g i j)):=by
 intro pins s σ H x y v u Q I rx ry h
 obtain ⟨i,j,rfl,rfl,hc,q⟩:=h
 obtain ⟨t,rfl⟩:=rx
 obtain ⟨t',rfl⟩:=ry
 exact rule i j t t' s _ _ hc ⟨.int (g i j),H,I.tok _,⟨_,rfl⟩,q⟩
theorem aP7 {f:Value->Value->Sem Value}{g:Int->Int->Int}
  (rule:∀ (i j:Int) (t u:Tok) (s:Shared) (Q:Value->Shared->Prop) (E:Value->Shared->Prop),Q (.int (g i j) s.toks) { s with toks:=s.toks+1 }->wpAny (model X.prog X.w) X.A (f (.int i t) (.int j u)) Q E s) :
  gD X f (rI0 fun i j=> .int (g i j)):=by
 intro pins s σ H x y v u Q I rx ry h
 obtain ⟨i,j,rfl,rfl,q⟩:=h
 obtain ⟨t,rfl⟩:=rx
 obtain ⟨t',rfl⟩:=ry
 exact rule i j t t' s _ _ ⟨.int (g i j),H,I.tok _,⟨_,rfl⟩,q⟩
theorem zV {f:Value->Value->Sem Value}{g:Int->Int->Bool}
  (rule:∀ (i j:Int) (t u:Tok) (s:Shared) (Q:Value->Shared->Prop) (E:Value->Shared->Prop),Q (.bool (g i j)) s->wpAny (model X.prog X.w) X.A (f (.int i t) (.int j u)) Q E s) :
  gD X f (rI0 fun i j=> .bl (g i j)):=by
 intro pins s σ H x y v u Q I rx ry h
 obtain ⟨i,j,rfl,rfl,q⟩:=h
 obtain ⟨t,rfl⟩:=rx
 obtain ⟨t',rfl⟩:=ry
 exact rule i j t t' s _ _ ⟨.bl (g i j),H,I,rfl,q⟩
def aW7 (i j:Int):Prop:=0<=j/\j<=1000000/\i.natAbs < 2 ^ 64
def aE7 (i j:Int):Prop:=(-(2 ^ 64) < i/\i < 2 ^ 64)\/(-(2 ^ 64) < j/\j < 2 ^ 64)
theorem aE7.ok {i j:Int}(h:aE7 i j):IntMulOk i j:=by
 rcases h with ⟨h1,h2⟩ | ⟨h1,h2⟩
 ·exact .of_left (intBits_le_64 h1 h2)
 ·exact .of_right (intBits_le_64 h1 h2)
theorem aW:gD X (binaryOp .Add) (rI0 fun i j=> .int (i+j)):=aP7 fun _ _ _ _ _ _ _ q=>add_int q
theorem cL:gD X (binaryOp .Sub) (rI0 fun i j=> .int (i - j)):=aP7 fun _ _ _ _ _ _ _ q=>sub_int q
theorem fS:gD X (binaryOp .Mult) (rI aE7 fun i j=> .int (i * j)):=opI fun _ _ _ _ _ _ _ hc q=>mul_int q hc.ok
theorem fC:gD X (binaryOp .Mod) (rI (fun _ j=>0 < j) fun i j=> .int (i % j)):=opI fun i j _ _ _ _ _ hc q=>by
 have h1:(0:Int) < j:=hc
 exact mod_int' (by omega) (by rw [Int.fmod_eq_emod_of_nonneg i (by omega)];exact q)
theorem aE6:gD X (binaryOp .Pow) (rI aW7 fun i j=> .int (i ^ j.toNat)):=opI fun _ _ _ _ _ _ _ hc q=>pow_int_small hc.1 hc.2.1 hc.2.2 q
theorem unI {f:Value->Sem Value}{g:Int->Int}
  (rule:∀ (i:Int) (t:Tok) (s:Shared) (Q:Value->Shared->Prop) (E:Value->Shared->Prop),Q (.int (g i) s.toks) { s with toks:=s.toks+1 }->wpAny (model X.prog X.w) X.A (f (.int i t)) Q E s) :
  UnR X f (rU fun i=> .int (g i)):=by
 intro pins s σ H x v Q I rx h
 obtain ⟨i,rfl,q⟩:=h
 obtain ⟨t,rfl⟩:=rx
 exact rule i t s _ _ ⟨.int (g i),H,I.tok _,⟨_,rfl⟩,q⟩
theorem rP:UnR X (unaryOp .USub) (rU fun i=> .int (-i)):=unI fun _ _ _ _ _ q=>neg_int q
end
def aO1:V->V->Bool
 |.non,.non=>true | .non,.int _=>true | .int _,.non=>true | .non,.bl _=>true | .bl _,.non=>true | .non,.str _=>true | .str _,.non=>true
 |.int _,.int _=>true | .bl _,.bl _=>true | .str _,.str _=>true | .byt _,.byt _=>true
 |.int _,.str _=>true | .str _,.int _=>true | .bl _,.str _=>true | .str _,.bl _=>true
 |_,_=>false
def rEq:R2:=fun x y H Q=>aO1 x y=true/\Q (.bl (decide (x=y))) H
def rNe:R2:=fun x y H Q=>aO1 x y=true/\Q (.bl (!decide (x=y))) H
theorem rW {i j:Int}:decide (V.int i=V.int j)=(i == j):=by
 rw [jk]
 simp
theorem xR {i j:Bool}:decide (V.bl i=V.bl j)=(i == j):=by
 rw [jk]
 simp
theorem sC {i j:Str}:decide (V.str i=V.str j)=(i == j):=by
 rw [jk]
 simp
theorem rS {i j:Array UInt8}:decide (V.byt i=V.byt j)=(i.toList == j.toList):=by
 rw [jk]
 cases i
 cases j
 simp
section
variable {X:Cx}{a b c:Expr}{ta tb tc:TE}{pos:Pos}
theorem bJ {pins:List (Addr×Obj)}{σ: St}{H:Hp}{s:Shared}{Q:VK}{k k':Bool}(I:aL X pins σ H s) (q:Q (.bl k) H) (e:k=k'):EP X pins σ Q (.bool k') s:=by
 subst e
 exact ⟨.bl k,H,I,rfl,q⟩
theorem cP:gD X (compareOp .Eq) rEq:=by
 intro pins s σ H x y v u Q I rx ry h
 obtain ⟨hs,q⟩:=h
 cases x with
 |non =>
  cases rx
  cases y with
  |non=>cases ry;exact PySem.EqNone.eq_none_none (bJ I q (by simp))
  |bl j=>cases ry;exact PySem.EqNone.eq_none_bool (bJ I q (by simp))
  |int j=>obtain ⟨t',rfl⟩:=ry;exact PySem.EqNone.eq_none_int (bJ I q (by simp))
  |str j=>obtain ⟨t',rfl⟩:=ry;exact PySem.EqNone.eq_none_str (bJ I q (by simp))
  |_=>exact absurd (show false=true from hs) ba
 |bl i =>
  cases rx
  cases y with
  |non=>cases ry;exact PySem.EqNone.eq_bool_none (bJ I q (by simp))
  |bl j=>cases ry;exact eq_bool (bJ I q xR)
  |str j=>obtain ⟨t',rfl⟩:=ry;exact PySem.EqMixed.eq_bool_str (bJ I q (by simp))
  |_=>exact absurd (show false=true from hs) ba
 |int i =>
  obtain ⟨t,rfl⟩:=rx
  cases y with
  |non=>cases ry;exact PySem.EqNone.eq_int_none (bJ I q (by simp))
  |int j=>obtain ⟨t',rfl⟩:=ry;exact eq_int (bJ I q rW)
  |str j=>obtain ⟨t',rfl⟩:=ry;exact PySem.EqMixed.eq_int_str (bJ I q (by simp))
  |_=>exact absurd (show false=true from hs) ba
 |str i =>
  obtain ⟨t,rfl⟩:=rx
  cases y with
  |non=>cases ry;exact PySem.EqNone.eq_str_none (bJ I q (by simp))
  |bl j=>cases ry;exact PySem.EqMixed.eq_str_bool (bJ I q (by simp))
  |int j=>obtain ⟨t',rfl⟩:=ry;exact PySem.EqMixed.eq_str_int (bJ I q (by simp))
  |str j=>obtain ⟨t',rfl⟩:=ry;exact eq_str (bJ I q sC)
  |_=>exact absurd (show false=true from hs) ba
 |byt i =>
  obtain ⟨t,rfl⟩:=rx
  cases y with
  |byt j=>obtain ⟨t',rfl⟩:=ry;exact PySem.W.eq_bytes (bJ I q rS)
  |_=>exact absurd (show false=true from hs) ba
 |_=>cases y <;> exact absurd (show false=true from hs) ba
theorem aN1:gD X (compareOp .NotEq) rNe:=by
 intro pins s σ H x y v u Q I rx ry h
 obtain ⟨hs,q⟩:=h
 cases x with
 |non =>
  cases rx
  cases y with
  |non=>cases ry;exact PySem.EqNone.ne_none_none (bJ I q (by simp))
  |bl j=>cases ry;exact PySem.EqNone.ne_none_bool (bJ I q (by simp))
  |int j=>obtain ⟨t',rfl⟩:=ry;exact PySem.EqNone.ne_none_int (bJ I q (by simp))
  |str j=>obtain ⟨t',rfl⟩:=ry;exact PySem.EqNone.ne_none_str (bJ I q (by simp))
  |_=>exact absurd (show false=true from hs) ba
 |bl i =>
  cases rx
  cases y with
  |non=>cases ry;exact PySem.EqNone.ne_bool_none (bJ I q (by simp))
  |bl j=>cases ry;exact ne_bool (bJ I q (ee not xR))
  |str j=>obtain ⟨t',rfl⟩:=ry;exact PySem.EqMixed.ne_bool_str (bJ I q (by simp))
  |_=>exact absurd (show false=true from hs) ba
 |int i =>
  obtain ⟨t,rfl⟩:=rx
  cases y with
  |non=>cases ry;exact PySem.EqNone.ne_int_none (bJ I q (by simp))
  |int j=>obtain ⟨t',rfl⟩:=ry;exact ne_int (bJ I q (ee not rW))
  |str j=>obtain ⟨t',rfl⟩:=ry;exact PySem.EqMixed.ne_int_str (bJ I q (by simp))
  |_=>exact absurd (show false=true from hs) ba
 |str i =>
  obtain ⟨t,rfl⟩:=rx
  cases y with
  |non=>cases ry;exact PySem.EqNone.ne_str_none (bJ I q (by simp))
  |bl j=>cases ry;exact PySem.EqMixed.ne_str_bool (bJ I q (by simp))
  |int j=>obtain ⟨t',rfl⟩:=ry;exact PySem.EqMixed.ne_str_int (bJ I q (by simp))
  |str j=>obtain ⟨t',rfl⟩:=ry;exact ne_str (bJ I q (ee not sC))
  |_=>exact absurd (show false=true from hs) ba
 |byt i =>
  obtain ⟨t,rfl⟩:=rx
  cases y with
  |byt j=>obtain ⟨t',rfl⟩:=ry;exact PySem.W.ne_bytes (bJ I q (ee not rS))
  |_=>exact absurd (show false=true from hs) ba
 |_=>cases y <;> exact absurd (show false=true from hs) ba
theorem kD:gD X (compareOp .Lt) (rI0 fun i j=> .bl (decide (i < j))):=zV fun _ _ _ _ _ _ _ q=>lt_int q
theorem aB6:gD X (compareOp .LtE) (rI0 fun i j=> .bl (decide (i<=j))):=zV fun _ _ _ _ _ _ _ q=>le_int q
theorem fA:gD X (compareOp .Gt) (rI0 fun i j=> .bl (decide (j < i))):=zV fun _ _ _ _ _ _ _ q=>gt_int q
theorem aM5:gD X (compareOp .GtE) (rI0 fun i j=> .bl (decide (j<=i))):=zV fun _ _ _ _ _ _ _ q=>ge_int q
theorem xT (b:Expr) {op:CmpOp}(h:autoParam (op≠ .In) Rq1._auto_1) (h2:autoParam (op≠ .NotIn) Rq1._auto_1):behindInMarks op b=false:=by
 have e1:(op == CmpOp.In)=false:=by cases op <;> first | rfl | exact absurd rfl h
 have e2:(op == CmpOp.NotIn)=false:=by cases op <;> first | rfl | exact absurd rfl h2
 cases b <;> simp [behindInMarks,e1,e2]
theorem zW {op:CmpOp}{r:R2}(ho:gD X (compareOp op) r) (ha:PE X a ta) (hb:PE X b tb) (hm:behindInMarks op b=false):PE X (.Compare a [op] [b] pos) (tOp r ta tb):=by
 intro pins s σ H Q I h
 exact wpAny_Compare1 (aG9 ha hb I h fun v u s2 x y H2 I2 rx ry q=>ho pins s2 σ H2 x y v u Q I2 rx ry q) hm
def aB9 (t:TE):TT:=fun σ H Q=>t σ H fun x H'=>∃ k,x= .bl k/\Q k H'
theorem aA0 {op:CmpOp}{r:R2}(ho:gD X (compareOp op) r) (ha:PE X a ta) (hb:PE X b tb) (hm:behindInMarks op b=false):PT X (.Compare a [op] [b] pos) (aB9 (tOp r ta tb)):=by
 intro pins s σ H Q I h
 refine wpAny_isTrue_Compare1 (bZ (ha pins s σ H _ I h) fun v s1 ⟨x,H1,I1,r1,q1⟩=>bZ (hb pins s1 σ H1 _ I1 q1) fun u s2 ⟨y,H2,I2,r2,q2⟩ =>
  bZ (ho pins s2 σ H2 x y v u _ I2 r1 r2 q2) fun c s3 ⟨z,H3,I3,r3,k,e,q3⟩=>?_) hm
 subst e
 cases r3
 exact gg ⟨H3,I3,q3⟩
def aT3 (K:PySem.W.Frag) (x:V) (H:Hp) (k:Bool):Prop :=
 match x with
 |.non=>k=false
 |.bl b=>k=b
 |.int i=>k=(i != 0)
 |.str y=>y.length<=sizeLine/\k=((y.length:Int) != 0)
 |.byt y=>y.size<=sizeLine/\k=((y.size:Int) != 0)
 |.ref p=>(∃ xs,bH K H p xs/\k= !xs.isEmpty)\/(∃ xs,bA K H p xs/\k= !xs.isEmpty)\/∃ kvs,H p=some (.dK kvs)/\k= !kvs.isEmpty
 |_=>False
theorem rR {κ: Type}{kvs:List (κ×V)}{vs:List (κ×Value)}(r:KV kvs vs):(!vs.isEmpty)= !kvs.isEmpty:=by
 cases r <;> rfl
theorem lQ {xs:List V}{its:List Value}(r:aV xs its):(!its.toArray.isEmpty)= !xs.isEmpty:=by
 cases r <;> simp
theorem jR:(sizeLine:Nat) < 2 ^ 63:=by rw [jx];decide
theorem aE0:aX9 X (fun x H Q=>∃ k,aT3 X.K x H k/\Q k H):=by
 intro pins s σ H x v Q I rx h
 obtain ⟨k,e,q⟩:=h
 have hl:=jR
 have hs:sizeLine=16777216:=jx
 cases x with
 |non =>
  cases rx
  have e':k=false:=e
  subst e'
  exact truthy_none ⟨H,I,q⟩
 |bl b =>
  cases rx
  have e':k=b:=e
  subst e'
  exact gg ⟨H,I,q⟩
 |int i =>
  obtain ⟨t,rfl⟩:=rx
  have e':k=(i != 0):=e
  subst e'
  exact PySem.P.truthy_int ⟨H,I,q⟩
 |str y =>
  obtain ⟨t,rfl⟩:=rx
  obtain ⟨hy,e'⟩:y.length<=sizeLine/\k=((y.length:Int) != 0):=e
  subst e'
  exact PySem.P.truthy_str (by omega) ⟨H,I.tok _,q⟩
 |byt y =>
  obtain ⟨t,rfl⟩:=rx
  obtain ⟨hy,e'⟩:y.size<=sizeLine/\k=((y.size:Int) != 0):=e
  subst e'
  exact PySem.W.truthy_bytes (by omega) ⟨H,I.tok _,q⟩
 |ref p =>
  cases rx
  have e':(∃ xs,bH X.K H p xs/\k= !xs.isEmpty)\/(∃ xs,bA X.K H p xs/\k= !xs.isEmpty)\/∃ kvs,H p=some (.dK kvs)/\k= !kvs.isEmpty:=e
  rcases e' with ⟨xs,hx,e'⟩ | ⟨xs,hx,e'⟩ | ⟨kvs,hx,e'⟩
  ·subst e'
   obtain ⟨its,r,pl,hz⟩:=I.list hx
   have hlen:=r.length
   exact wpAny_truthy_list pl.isList (by simp only [List.size_toArray];omega) ⟨H,I.tok _,by rw [lQ r];exact q⟩
  ·subst e'
   obtain ⟨its,r,pl,hz⟩:=I.tuple hx
   have hlen:=r.length
   exact truthy_tuple pl (by simp only [List.size_toArray];omega) ⟨H,I.tok _,by rw [lQ r];exact q⟩
  ·subst e'
   obtain ⟨hz,hS,vs,r,m⟩:kvs.length<=sizeLine/\(p == sysModules)=false/\∃ vs,KV kvs vs/\s.heap.DictOf (bY X.prog X.w) p vs:=I.hok p _ hx
   have hlen:kvs.length=vs.length:=ke r
   exact wpAny_truthy_dict hS m (by omega) ⟨H,I.tok _,by rw [rR r];exact q⟩
 |_=>exact (show False from e).elim
theorem xD (ha:PE X a ta) (he:∀ whole,isTrue a X.env whole=(do let v <- whole;standAt a.pos;holding [v] (truthy v))) :
  PT X a (fun σ H Q=>ta σ H fun x H'=>∃ k,aT3 X.K x H' k/\Q k H'):=by
 intro pins s σ H Q I h
 refine isTrue_plain (bZ (ha pins s σ H _ I h) ?_) (he _);rintro v s1 ⟨x,H1,I1,r1,q1⟩;exact aE0 pins s1 σ H1 x v Q I1 r1 q1
theorem lT:gD X (binaryOp .Add) (fun x y H Q=>∃ i j,x= .str i/\y= .str j/\i.length+j.length<=sizeLine/\Q (.str (i++j)) H):=by
 intro pins s σ H x y v u Q I rx ry h
 obtain ⟨i,j,rfl,rfl,hz,q⟩:=h
 obtain ⟨t,rfl⟩:=rx
 obtain ⟨t',rfl⟩:=ry
 exact add_str (fun t' tk=>⟨.str (i++j),H,I.tok _,⟨_,rfl⟩,q⟩) hz
theorem mJ {x:V}{us:List Value}(r:aV [x] us):∃ u,us=[u]/\bG x u:=by
 cases r with
 |cons r1 r2=>cases r2;exact ⟨_,rfl,r1⟩
theorem vE {x y:V}{us:List Value}(r:aV [x,y] us):∃ u w',us=[u,w']/\bG x u/\bG y w':=by
 cases r with
 |cons r1 r2 =>
  cases r2 with
  |cons r3 r4=>cases r4;exact ⟨_,_,rfl,r1,r3⟩
theorem hJ (hc:X.calm=true):gL X (.builtin "max") (fun xs H Q=>∃ i j,xs=[.int i,.int j]/\Q (.int (if j > i then j else i)) H):=by
 intro pins s σ H xs us Q I r h
 obtain ⟨i,j,rfl,q⟩:=h
 obtain ⟨u,w',rfl,⟨t,rfl⟩,⟨t',rfl⟩⟩:=vE r
 refine max_two_ints (I.ok.hd hc) fun h' tk k=>⟨_,H,I.kept k,?_,q⟩
 by_cases hj:j > i
 ·rw [bj hj,bj hj];exact ⟨_,rfl⟩
 ·rw [ar hj,ar hj];exact ⟨_,rfl⟩
theorem fG (hc:X.calm=true):gL X (.builtin "min") (fun xs H Q=>∃ i j,xs=[.int i,.int j]/\Q (.int (if j < i then j else i)) H):=by
 intro pins s σ H xs us Q I r h
 obtain ⟨i,j,rfl,q⟩:=h
 obtain ⟨u,w',rfl,⟨t,rfl⟩,⟨t',rfl⟩⟩:=vE r
 refine min_two_ints (I.ok.hd hc) fun h' tk k=>⟨_,H,I.kept k,?_,q⟩
 by_cases hj:j < i
 ·rw [bj hj,bj hj];exact ⟨_,rfl⟩
 ·rw [ar hj,ar hj];exact ⟨_,rfl⟩
theorem jQ:gL X (.type "int") (fun xs H Q=>(∃ i,xs=[.int i]/\Q (.int i) H)\/∃ k,xs=[.bl k]/\Q (.int (if k then 1 else 0)) H):=by
 intro pins s σ H xs us Q I r h
 rcases h with ⟨i,rfl,q⟩ | ⟨k,rfl,q⟩
 ·obtain ⟨u,rfl,t,rfl⟩:=mJ r
  exact call_int_int ⟨.int i,H,I,⟨_,rfl⟩,q⟩
 ·obtain ⟨u,rfl,r1⟩:=mJ r
  cases r1
  exact call_int_bool ⟨.int (if k then 1 else 0),H,I.tok _,⟨_,rfl⟩,q⟩
end
structure aG2 (h:Heap) (x dx C:Addr) (mA:Str->Option Value):Prop where
 obj:h.get? x=some (PySem.W.instObj C dx)
 ns:h.Ns1 dx mA
 ne:dx≠x
theorem mI {h:Heap}{dx:Addr}{mA:Str->Option Value}(n:h.Ns1 dx mA):∃ od,h.get? dx=some od/\∀ name,PySem.W.lookIn name od=some (mA name):=by
 obtain ⟨o,es,ep,ho,hd,hk,_,hm⟩:=n
 refine ⟨o,ho,fun name=>?_⟩
 have e:=hm name
 unfold nsFind findBy at e
 rw [<- pi] at e
 unfold PySem.W.lookIn
 rw [hd]
 dsimp only
 split
 ·rename_i y q
  rw [q] at e
  exact ee some e
 ·rename_i q
  rw [q] at e
  have a:es.toList.any (·.refKey)=false:=by
   rw [List.any_eq_false]
   intro y hy
   obtain ⟨z,t,hkey⟩:=hk y (Array.mem_toList_iff.mp hy)
   simp [DictEntry.refKey,hkey]
  have a':¬ es.toList.any (·.refKey)=true:=by rw [a];exact ba
  rw [ar a']
  exact ee some e
theorem aG2.look {h:Heap}{x dx C:Addr}{mA:Str->Option Value}(I:aG2 h x dx C mA):∃ od,PySem.W.InstAt h x (PySem.W.instObj C dx) C (some od)/\∀ name,PySem.W.lookIn name od=some (mA name) :=by
 obtain ⟨od,ho,hl⟩:=mI I.ns
 exact ⟨od,⟨I.obj,rfl,rfl,ho⟩,hl⟩
section
variable {prog:Program}{w:World}{A:Around}{E:Value->Shared->Prop}{s:Shared}{K:PySem.W.Frag}{x dx C f:Addr}{mA:Str->Option Value}{name:Str}{v:Value}
end
theorem iE.some_of {v:V}{o:Option Value}(r:iE (some v) o):∃ u,o=some u/\bG v u:=by
 cases o with
 |none=>exact (show False from r).elim
 |some u=>exact ⟨u,rfl,r⟩
theorem tZ {v:V}{u:Value}(r:bG v u):PySem.W.handedIn u=true:=by
 cases v with
 |non=>cases (show u=Value.none from r);rfl
 |bl b=>cases (show u=Value.bool b from r);rfl
 |int i=>obtain ⟨t,e⟩:=(show ∃ t,u=Value.int i t from r);cases e;rfl
 |str x=>obtain ⟨t,e⟩:=(show ∃ t,u=Value.str x t from r);cases e;rfl
 |byt b=>obtain ⟨t,e⟩:=(show ∃ t,u=Value.bytes b t from r);cases e;rfl
 |flt b=>obtain ⟨t,e⟩:=(show ∃ t,u=Value.float b t from r);cases e;rfl
 |ref a=>cases (show u=Value.ref a from r);rfl
 |ty n=>cases (show u=Value.type n from r);rfl
section
variable {P:Program}{w:World}{H H':Hp}{h h':Heap}{a C dx:Addr}{fs fs':List (Str×V)}
theorem yH (hok:fF P w H h) (e:H a=some (.ins C dx fs)):∃ mA,aG2 h a dx C mA/\(∀ f,iE (fs.lookup f) (mA f))/\PySem.Within mA (fs.map (·.1))/\fs.length<=1000/\H dx=some (.own a):=by
 obtain ⟨d,z,ne,ob,mA,n,r,q⟩:=(show bL P w H h a (.ins C dx fs) from hok a _ e)
 exact ⟨mA,⟨ob,n,ne⟩,r,q,z,d⟩
end
structure Cls (K:PySem.W.Frag) (C:Addr):Prop where
 pg:PySem.W.plainGet K C Str.empty=true
 hd:PySem.W.hasDictIn K C=true
 po:PySem.W.plainOver K C=true
 sa:PySem.W.findIn K (.ref C) "__setattr__"=some (some (.builtin "object.__setattr__"))
theorem Cls.get {K:PySem.W.Frag}{C:Addr}(c:Cls K C) (f:Str):PySem.W.plainGet K C f=true:=c.pg
def nY (K:PySem.W.Frag) (C:Addr) (f:Str):Prop:=PySem.W.findIn K (.ref C) f=some none
section
variable {X:Cx}{pins:List (Addr×Obj)}{σ: St}{H:Hp}{s:Shared}{a C dx:Addr}{fs:List (Str×V)}{f:Str}{v:V}{A:Around}{E:Value->Shared->Prop}
theorem yO {prog:Program}{w:World}{env:Env}{e:Expr}{f:Str}{pos:Pos}{s:Shared}{Q:Value->Shared->Prop}(hb:attributeBase e f env (eval e env)=eval e env)
  (h:wpAny (model prog w) A (eval e env) (fun o s₁=>wpAny (model prog w) A (getAttr o f true) Q E s₁) E s):wpAny (model prog w) A (eval (.Attribute e f pos) env) Q E s :=
 Attribute_any_ h (by rw [arm_eval_Attribute,hb])
end
section
variable {X:Cx}{o e value:Expr}{f:Str}{pos pos' tpos:Pos}{ta tv:TE}
end
section
variable {X:Cx}{pins:List (Addr×Obj)}{σ: St}{H:Hp}{s:Shared}{A:Around}{E:Value->Shared->Prop}{Q:Value->Shared->Prop}{c:Value}{b:Bool}
inductive jU (K:PySem.W.Frag) (H:Hp):V->Value->Prop where
 |non:jU K H .non (.type "NoneType")
 |bl (x:Bool):jU K H (.bl x) (.type "bool")
 |int (i:Int):jU K H (.int i) (.type "int")
 |str (x:Str):jU K H (.str x) (.type "str")
 |flt (x:UInt64):jU K H (.flt x) (.type "float")
 |lst {a:Addr}{xs:List V}(e:H a=some (.lst xs)):jU K H (.ref a) (.type "list")
 |frz {a:Addr}{o:Obj}{xs:List V}(e:H a=some (.frz o (.lst xs))):jU K H (.ref a) (.type "list")
 |tup {a:Addr}{xs:List V}(e:H a=some (.tup xs)):jU K H (.ref a) (.type "tuple")
 |dK {a:Addr}{kvs:List (Key×V)}(e:H a=some (.dK kvs)):jU K H (.ref a) (.type "dict")
 |dT {a:Addr}{kvs:List (List Key×V)}(e:H a=some (.dT kvs)):jU K H (.ref a) (.type "dict")
 |ins {a C dx:Addr}{fs:List (Str×V)}(e:H a=some (.ins C dx fs)) (cl:Cls K C) (ha:PySem.W.findIn K (.ref C) "__class__"=some (some (.builtin "object.__class__")))
   (hn:PySem.W.specialIn K (.builtin "object.__class__") "__get__"=some (some (.builtin "getset_descriptor.__get__"))) (htk:PySem.W.takesIn K (.builtin "object.__class__")=some true)
   (hm:PySem.W.mroIn K C (.type "object")=some true):jU K H (.ref a) (.ref C)
theorem tO {x:V}{u t:Value}(I:aL X pins σ H s) (rx:bG x u) (ty:jU X.K H x t) (e:PySem.W.kitOne X.K t c=some b) (h:∀ tk,Q (.bool b) { s with toks:=tk }) :
  wpAny (model X.prog X.w) A (call (.builtin "isinstance") [u,c]) Q E s:=by
 cases ty with
 |non=>cases (show u=Value.none from rx);exact dk PySem.W.kitx_none I.kIn dw e (fun z=>nomatch z) h
 |bl y=>cases (show u=Value.bool y from rx);exact dk PySem.W.kitx_bool I.kIn dw e (fun z=>nomatch z) h
 |int i=>obtain ⟨t,q⟩:=(show ∃ t,u=Value.int i t from rx);cases q;exact dk PySem.W.kitx_int I.kIn dw e (fun z=>nomatch z) h
 |str y=>obtain ⟨t,q⟩:=(show ∃ t,u=Value.str y t from rx);cases q;exact dk PySem.W.kitx_str I.kIn dw e (fun z=>nomatch z) h
 |flt y=>obtain ⟨t,q⟩:=(show ∃ t,u=Value.float y t from rx);cases q;exact dk PySem.W.kitx_float I.kIn dw e (fun z=>nomatch z) h
 |@lst a xs ea =>
  cases (show u=Value.ref a from rx)
  obtain ⟨_,_,n,_,h1⟩:=(show bL X.prog X.w H s.heap a (.lst xs) from I.hok a _ ea)
  exact dk qo I.kIn ⟨_,h1,rfl⟩ e (fun z=>nomatch z) h
 |@frz a ob xs ea =>
  cases (show u=Value.ref a from rx)
  obtain ⟨_,_,_,n,_,h1⟩:=(show bL X.prog X.w H s.heap a (.frz ob (.lst xs)) from I.hok a _ ea)
  exact dk qo I.kIn ⟨_,h1,rfl⟩ e (fun z=>nomatch z) h
 |@tup a xs ea =>
  cases (show u=Value.ref a from rx)
  obtain ⟨_,_,_,p⟩:=(show bL X.prog X.w H s.heap a (.tup xs) from I.hok a _ ea)
  obtain ⟨o,h1,h2,_⟩:=p
  exact dk PySem.W.kitx_tuple I.kIn ⟨o,h1,h2⟩ e (fun z=>nomatch z) h
 |@dK a kvs ea =>
  cases (show u=Value.ref a from rx)
  obtain ⟨_,_,vs,_,p⟩:=(show bL X.prog X.w H s.heap a (.dK kvs) from I.hok a _ ea)
  obtain ⟨o,es,ep,h1,h2,_⟩:=p
  exact dk qp I.kIn ⟨o,h1,h2.1⟩ e (fun z=>nomatch z) h
 |@dT a kvs ea =>
  cases (show u=Value.ref a from rx)
  obtain ⟨_,_,xs,_,o,es,ep,h1,h2,_⟩:=(show bL X.prog X.w H s.heap a (.dT kvs) from I.hok a _ ea)
  exact dk qp I.kIn ⟨o,h1,h2.1⟩ e (fun z=>nomatch z) h
 |@ins a C dx fs ea cl ha hn htk hm =>
  cases (show u=Value.ref a from rx)
  obtain ⟨mA,O,_⟩:=yH I.hok ea
  obtain ⟨od,J,_⟩:=O.look
  exact dk (PySem.W.kitx_own (cl.get _) cl.hd ha hn htk hm) I.kIn J e (fun z=>nomatch z) h
end
structure cF (k:Nat) (A:Around):Prop where
 hd:A.handled=none
 dp:A.depth+3 * k+5 < recursionLimit
 un:A.units+16 * k+200 < cLine
 gd:A.guards=some []
theorem cF.mono {j k:Nat}{A:Around}(r:cF k A) (h:j<=k):cF j A:=⟨r.hd,by have:=r.dp;omega,by have:=r.un;omega,r.gd⟩
theorem cF.deeper {k:Nat}{A:Around}(r:cF (k+1) A) (env:Env):cF k (A.deeper env) :=
 ⟨r.hd,by have:=r.dp;show A.depth+1+3 * k+5 < _;omega,by have:=r.un;show A.units+3+16 * k+200 < _;omega,r.gd⟩
theorem qI {A:Around}{C:Addr}{us:List Value}{kw:List (Str×Value)}:(A.under (.builtin "type.__call__" ⟨.ref C :: us,kw⟩)).depth=A.depth+1:=by
 first | rfl | simp [Around.under,Code.weight,Code.isCreation,Code.isGuard,Code.isCaller,Code.frames,Code.isFrame,guardIds]
theorem rL {A:Around}{C:Addr}{us:List Value}{kw:List (Str×Value)}:(A.under (.builtin "type.__call__" ⟨.ref C :: us,kw⟩)).units=A.units+1:=by
 first | rfl | simp [Around.under,Code.cUnits,Code.frames,Code.isFrame]
theorem pK {A:Around}{C:Addr}{us:List Value}{kw:List (Str×Value)}:(A.under (.builtin "type.__call__" ⟨.ref C :: us,kw⟩)).guards=A.guards:=by
 have e:(Code.builtin "type.__call__" ⟨.ref C :: us,kw⟩).isGuard=false:=by
  show guardIds.contains "type.__call__"=false
  decide +kernel
 cases h:A.guards <;> simp [Around.under,Code.guards,pushGuards,e,h]
theorem cF.make {k:Nat}{A:Around}(r:cF (k+1) A) (C:Addr) (us:List Value) (kw:List (Str×Value)):cF k (A.under (.builtin "type.__call__" ⟨.ref C :: us,kw⟩)) :=
 ⟨r.hd,by have:=r.dp;rw [qI];omega,by have:=r.un;rw [rL];omega,pK.trans r.gd⟩
theorem cF.depth {k:Nat}{A:Around}(r:cF k A):A.depth < recursionLimit:=by have:=r.dp;omega
theorem cF.units {k:Nat}{A:Around}(r:cF k A):A.units+64 < cLine:=by have:=r.un;omega
def tNil:TA:=fun _ H Q=>Q [] H
def aC1 (ta:TE) (tr:TA):TA:=fun σ H Q=>ta σ H fun x H1=>tr σ H1 fun xs H2=>Q (x :: xs) H2
section
variable {X:Cx}{e:Expr}{es:List Expr}{te:TE}{t:TA}{pos:Pos}
theorem cA:PA X [] tNil:=fun _ _ _ _ H Q I h=>qq ⟨[],H,I,.nil,h⟩
theorem aA (ha:PE X e te) (hr:PA X es t) (hs:autoParam (starEach (e :: es) X.env=(false,eval e X.env) :: starEach es X.env) Rq0._auto_1):PA X (e :: es) (aC1 te t):=by
 intro pos pins s σ H Q I h
 rw [hs]
 show wpAny _ _ (spliced ((false,eval e X.env) :: backTo pos (starEach es X.env))) _ _ s
 refine pj (bZ (ha pins s σ H _ I h) ?_);rintro u s1 ⟨x,H1,I1,r1,q1⟩
 refine bZ (hr pos pins s1 σ H1 _ I1 q1) ?_;rintro us s2 ⟨xs,H2,I2,r2,q2⟩;exact ⟨x :: xs,H2,I2,.cons r1 r2,q2⟩
def aX3 (t:TA):TE:=fun σ H Q=>t σ H fun xs H1=>xs.length<=sizeLine/\∀ p,H1 p=none->Q (.ref p) (aN H1 p (.tup xs))
def aX6 (t:TA):TE:=fun σ H Q=>t σ H fun xs H1=>xs.length<=sizeLine/\∀ p,H1 p=none->Q (.ref p) (aN H1 p (.lst xs))
theorem aR {x1} (h:PA X es t):PE X (.Tuple es x1 pos) (aX3 t):=by
 intro pins s σ H Q I hq
 refine wpAny_Tuple_spliced (bZ (h pos pins s σ H _ I hq) ?_);rintro us s1 ⟨xs,H1,I1,r,z,q⟩;refine ⟨by rw [<- r.length];exact z,?_⟩
 have hf:H1 s1.heap.objs.size=none:=I1.hok.fresh (ae _)
 refine ⟨.ref s1.heap.objs.size,aN H1 s1.heap.objs.size (.tup xs),I1.laid (t':=s1.toks) (fun b u e=>af _ e) (ae _) ?_,rfl,q _ hf⟩
 exact ⟨z,us,r,⟨_,bn _ rfl,rfl,_,rfl,rfl⟩⟩
theorem bQ (h:PA X es t):PE X (.List es pos) (aX6 t):=by
 intro pins s σ H Q I hq
 refine wpAny_List_spliced (bZ (h pos pins s σ H _ I hq) ?_);rintro us s1 ⟨xs,H1,I1,r,z,q⟩;refine ⟨by rw [<- r.length];exact z,?_⟩
 have hf:H1 s1.heap.objs.size=none:=I1.hok.fresh (ae _)
 refine ⟨.ref s1.heap.objs.size,aN H1 s1.heap.objs.size (.lst xs),I1.laid (t':=s1.toks) (fun b u e=>af _ e) (ae _) ?_,rfl,q _ hf⟩
 exact ⟨z,us,0,r,bn _ rfl⟩
end
abbrev Sp:=List V->Hp->VK->XK->Prop
abbrev CXT:=List Env->Hp->Shared->XK->Value->Shared->Prop
structure rN (P:Program) (w:World) (K:PySem.W.Frag) (mg:Str->Option Value) (base:Heap) (A:Around) (outer:List Env) (s:Shared) (H:Hp):Prop where
 frames:A.frames=some outer
 mod:Mod K mg base
 bs:∀ b o,base.get? b=some o->s.heap.get? b=some o/\H b=none
 bsz:base.objs.size<=s.heap.objs.size
 funs:s.heap.FunFrames base outer
 frf:∀ b∈fE outer,H b=none
 hok:fF P w H s.heap
 bare:AllBare s.gens
def CE (outer:List Env) (P:Program) (w:World) (H:Hp) (s:Shared) (Q:VK) (u:Value) (s':Shared):Prop :=
 ∃ v H',s'.os=s.os/\AllBare s'.gens/\Un (fE outer) [] H H' s.heap s'.heap/\fF P w H' s'.heap/\bG v u/\Q v H'
def CR (CX:CXT) (outer:List Env) (P:Program) (w:World) (H:Hp) (s:Shared) (Q:VK) (E:XK) (r:Result) (s':Shared):Prop :=
 match r with
 |.ok (.ret u)=>CE outer P w H s Q u s'
 |.ok _=>False
 |.error e=>CX outer H s E e s'
structure fU (P:Program) (w:World) (K:PySem.W.Frag) (mg:Str->Option Value) (base:Heap) (CX:CXT) (k:Nat) (f:Addr) (fd:FuncData) (ps:List Str) (sp:Sp):Prop where
 len:∀ vs H Q E,sp vs H Q E->vs.length=ps.length
 run:∀ (A:Around) (outer:List Env) (s:Shared) (H:Hp) (args:Args) (us:List Value) (vs:List V) (Q:VK) (E:XK),cF k A->rN P w K mg base A outer s H->BindsTo s fd args (ps.zip us)->aV vs us->sp vs H Q E ->
  codeAny (model P w) A (.call (.ref f) args) (CR CX outer P w H s Q E) s
theorem rN.make {P:Program}{w:World}{K:PySem.W.Frag}{mg:Str->Option Value}{base:Heap}{A:Around}{outer:List Env}{s:Shared}{H:Hp}(e:rN P w K mg base A outer s H) (C:Addr) (us:List Value) (kw:List (Str×Value)) :
  rN P w K mg base (A.under (.builtin "type.__call__" ⟨.ref C :: us,kw⟩)) outer s H:=⟨by first | exact e.frames | (simpa [Around.under,Code.envs,Code.isFrame,pushEnvs] using e.frames),e.mod,e.bs,e.bsz,e.funs,e.frf,e.hok,e.bare⟩
section
variable {X:Cx}{pins:List (Addr×Obj)}{σ: St}{H:Hp}{s s':Shared}
theorem aL.env0 (I:aL X pins σ H s):rN X.prog X.w X.K X.mg X.base X.A X.stack s H :=
 ⟨I.ok.frames,I.ok.mod,I.bs,aj I.ok.bsz I.sz,I.stack,I.stkFree,I.hok,I.bare⟩
theorem aL.after {Q:VK}{u:Value}(I:aL X pins σ H s) (h:CE X.stack X.prog X.w H s Q u s'):EP X pins σ Q u s':=by
 obtain ⟨v,H',os,bare,un,hok,r,q⟩:=h
 obtain ⟨hh,g,d,t,os'⟩:=s'
 obtain rfl:os'=s.os:=os
 exact ⟨v,H',I.call (h':=hh) (g':=g) (d':=d) (t':=t) (ch:=[]) un hok bare (fun b z=>absurd z (by simp)),r,q⟩
end
def rY (sp:Sp) (dvs:List V) (E:XK) (t:TA):TE:=fun σ H Q=>t σ H fun vs H1=>sp (vs++dvs) H1 Q E
def dO (K:PySem.W.Frag) (fd:FuncData) (ps:List Str) (ds:List Value):Prop :=
 ∀ (s:Shared) (us:List Value),K.In s.heap->(us++ds).length=ps.length->BindsTo s fd ⟨us,[]⟩ (ps.zip (us++ds))
theorem dO.all {K:PySem.W.Frag}{fd:FuncData}{ps:List Str}(h:∀ us:List Value,us.length=ps.length->bindArgs fd ⟨us,[]⟩=pure (ps.zip us)):dO K fd ps []:=fun s us _ hl=>by
 rw [dm] at hl ⊢
 exact .of_eq (h us hl)
def fD (CX:CXT) (X:Cx) (E:XK):Prop:=∀ (pins:List (Addr×Obj)) (σ: St) (H:Hp) (s:Shared) (e:Value) (s':Shared),aL X pins σ H s->CX X.stack H s E e s'->X.xe e s'
section
variable {X:Cx}{CX:CXT}{k:Nat}{f C:Addr}{fd:FuncData}{ps:List Str}{sp:Sp}{dvs:List V}{ds:List Value}{E:XK}{x m:Str}{p pos apos:Pos}{e o:Expr}{es:List Expr}{ta:TE}{t:TA}
theorem aK1 {pins:List (Addr×Obj)}{σ: St}{H:Hp}{s:Shared}{Q:VK}{us:List Value}{vs:List V}(F:fU X.prog X.w X.K X.mg X.base CX k f fd ps sp) (hr:cF k X.A) (hb:dO X.K fd ps ds) (hd:aV dvs ds) (hx:fD CX X E)
  (I:aL X pins σ H s) (r:aV vs us) (h:sp (vs++dvs) H Q E):wpAny (model X.prog X.w) X.A (call (.ref f) us) (EP X pins σ Q) X.xe s:=by
 have r2:aV (vs++dvs) (us++ds):=r.append hd
 have hl:(us++ds).length=ps.length:=by rw [<- r2.length];exact F.len _ _ _ _ h
 refine oj (ku (F.run X.A X.stack s H ⟨us,[]⟩ (us++ds) (vs++dvs) Q E hr I.env0 (hb s us I.kIn hl) r2 h) fun r s' hq=>?_)
 cases r with
 |error e=>exact hx pins σ H s e s' I hq
 |ok fl =>
  cases fl with
  |ret u=>exact I.after hq
  |next=>exact False.elim hq
  |brk=>exact False.elim hq
  |cont=>exact False.elim hq
theorem oR (F:fU X.prog X.w X.K X.mg X.base CX k f fd ps sp) (hr:cF k X.A) (hg:Gl X x) (hm:X.mg x=some (.ref f)) (hk:PySem.W.keepIn X.K (.ref f)=true) (hb:dO X.K fd ps ds) (hd:aV dvs ds) (hx:fD CX X E)
  (ha:PA X (e :: es) t) (hdb:autoParam ((x == ("__debug__": Str))=false) Rq1._auto_1) (he:autoParam (starEach (e :: es) X.env=(false,eval e X.env) :: starEach es X.env) Rq0._auto_1) (hpl:autoParam ((backTo pos (starEach es X.env)).any (·.1)=false) Rq0._auto_1) :
  PE X (.Call (.Name x p) (e :: es) [] pos) (rY sp dvs E t):=by
 intro pins s σ H Q I h
 refine fw (kL I hg hm ?_ hdb)
 refine PySem.W.callWith_K (h₀:=X.base) I.ok.mod.kin hk (bZ (ha pos pins s σ H _ I h) ?_) he hpl;rintro us s1 ⟨vs,H1,I1,r,q⟩;refine ⟨I1.kIn,?_⟩
 exact aK1 F hr hb hd hx I1 r q
end
section
variable {X:Cx}{CX:CXT}{k:Nat}{f C:Addr}{fd:FuncData}{ps ks:List Str}{sp:Sp}{E:XK}{x m:Str}{p pos apos kpos:Pos}{e o:Expr}{es:List Expr}{kws:List Keyword}{te ta:TE}{t tk:TA}{nm:Option Str}
variable {g:List Value->List Value->List Value}{gV:List V->List V->List V}
end
structure eB (N P:List Str) (sc:Scope):Prop where
 kind:sc.kind= .function
 co:sc.isCoroutine=false
 gen:sc.isGenerator=false
 nd:N.Nodup
 pre:N.take P.length=P
 par:∀ x∈P,sc.names.lookup x=some .local\/sc.names.lookup x=some .cell
 nofree:∀ y∈sc.names,y.2≠ .free
theorem mH {kindOf:Str->Option NameKind}{x:Str}:∀ {binds:List (Str×Value)}{m:Str->Option Value},(∀ v,(x,v)∉binds)->bindL kindOf binds m x=m x
 |[],_,_=>rfl
 |(n,v) :: r,m,h=>by
  unfold bindL
  rw [mH fun w hw=>h w (aq _ hw)]
  split
  ·have:x≠n:=by rintro rfl;exact h v bg
   simp [this]
  ·rfl
theorem mZ {kindOf:Str->Option NameKind}{x:Str}:∀ {binds:List (Str×Value)}{m:Str->Option Value},(∀ v,(x,v)∉binds)->bindC kindOf binds m x=m x
 |[],_,_=>rfl
 |(n,v) :: r,m,h=>by
  unfold bindC
  rw [mZ fun w hw=>h w (aq _ hw)]
  split
  ·rfl
  ·have:x≠n:=by rintro rfl;exact h v bg
   simp [this]
theorem mY {kindOf:Str->Option NameKind}{x:Str}{v:Value}:∀ {P:List Str}{vs:List Value}{i:Nat}{m:Str->Option Value},P.Nodup->P[i]?=some x->vs[i]?=some v->kindOf x=some .local ->
  bindL kindOf (P.zip vs) m x=some v
 |[],_,_,_,_,h,_,_=>by simp at h
 |_ :: _,[],_,_,_,_,h,_=>by simp at h
 |p :: P,w :: vs,0,m,nd,h1,h2,hk=>by
  simp at h1 h2;subst h1;subst h2
  show bindL kindOf ((p,w) :: P.zip vs) m p=_
  unfold bindL
  rw [mH fun v hv=>(im.mp nd).1 (jl hv).1,bj hk]
  simp
 |p :: P,w :: vs,i+1,m,nd,h1,h2,hk=>by
  show bindL kindOf ((p,w) :: P.zip vs) m x=_
  unfold bindL
  exact mY (i:=i) (im.mp nd).2 (by simpa using h1) (by simpa using h2) hk
theorem mU {kindOf:Str->Option NameKind}{x:Str}{v:Value}:∀ {P:List Str}{vs:List Value}{i:Nat}{m:Str->Option Value},P.Nodup->P[i]?=some x->vs[i]?=some v->kindOf x≠some .local ->
  bindC kindOf (P.zip vs) m x=some v
 |[],_,_,_,_,h,_,_=>by simp at h
 |_ :: _,[],_,_,_,_,h,_=>by simp at h
 |p :: P,w :: vs,0,m,nd,h1,h2,hk=>by
  simp at h1 h2;subst h1;subst h2
  show bindC kindOf ((p,w) :: P.zip vs) m p=_
  unfold bindC
  rw [mZ fun v hv=>(im.mp nd).1 (jl hv).1,ar hk]
  simp
 |p :: P,w :: vs,i+1,m,nd,h1,h2,hk=>by
  show bindC kindOf ((p,w) :: P.zip vs) m x=_
  unfold bindC
  exact mU (i:=i) (im.mp nd).2 (by simpa using h1) (by simpa using h2) hk
def dX (N:List Str) (vs:List V):St:=vs.map some++List.replicate (N.length - vs.length) none
def dP (CX:CXT) (P:Program) (w:World) (K:PySem.W.Frag) (mg:Str->Option Value) (base:Heap) (N:List Str) (qual:Str) (scope:Scope) (f:Addr) (cd:Value) (A:Around) (outer:List Env) (s:Shared) (H:Hp) (E:XK):Cx where
 prog:=P
 w:=w
 K:=K
 mg:=mg
 base:=base
 A:=A.deeper (envOfC qual scope s.heap.objs.size f cd)
 N:=N
 s₀:=s
 H₀:=H
 env:=envOfC qual scope s.heap.objs.size f cd
 outer:=outer
 stack:=envOfC qual scope s.heap.objs.size f cd :: outer
 ex:=[]
 calm:=true
 fn:=fun _=>true
 pn:=[]
 xe:=fun e s'=>wpAny (model P w) (A.deeper (envOfC qual scope s.heap.objs.size f cd)) (leaving (envOfC qual scope s.heap.objs.size f cd) e) (fun _ s''=>CX outer H s E e s'') (fun e' s''=>CX outer H s E e' s'') s'
theorem pZ {sc:Scope}{n:Nat}{x:Str}(h:sc.names.lookup x=some .cell):∃ c,(cellsFrom n sc.names []).lookup x=some c:=by
 have q:=mo sc.names n [] (.inl h)
 exact kx.mp q
theorem mK {CX:CXT}{P:Program}{w:World}{K:PySem.W.Frag}{mg:Str->Option Value}{base:Heap}{N ps:List Str}{qual:Str}{scope:Scope}{f:Addr}{cd:Value}{A:Around}{outer:List Env}{s s1:Shared}{H:Hp}{E:XK}{us:List Value}{vs:List V}
  (S:eB N ps scope) (hd:A.handled=none) (e0:rN P w K mg base A outer s H) (hl:vs.length=ps.length) (r:aV vs us)
  (x:InCallC s s.heap.objs.size (bindL (envOfC qual scope s.heap.objs.size f cd).kindOf (ps.zip us) fun _=>none) (cellsFrom (s.heap.objs.size+1) scope.names []) (bindC (envOfC qual scope s.heap.objs.size f cd).kindOf (ps.zip us) fun _=>none) s1) :
  aL (dP CX P w K mg base N qual scope f cd A outer s H E) [] (dX N vs) H s1:=by
 have hpl:ps.length<=N.length:=by have:=ee List.length S.pre;rw [bq] at this;omega
 obtain ⟨h1,tk,rfl,hk⟩:=x.done
 have noA:∀ b:Addr,b∉(dP CX P w K mg base N qual scope f cd A outer s H E).ex:=fun b z=>absurd (show b∈([]:List Addr) from z) (by simp)
 refine ⟨⟨e0.mod,S.kind,rfl,rfl,ae _,fun y z c h1 h2=>?_,fun y hy=>?_,fun y c _ h=>?_,fun _=>hd,Around.frames_deeper e0.frames,.inr ⟨rfl,rfl⟩,fun b z=>absurd z (noA b),e0.bs,e0.bsz,fun b _ _=>noA b,fun b z=>absurd z (noA b),e0.funs,e0.frf⟩,
  rfl,e0.bare,Un.kept hk,⟨_,x.toInCall.ns,fun i y v h1 h2 h3=>?_⟩,fun y c h=>⟨_,x.cell y c h⟩,e0.hok.fresh (ae _),fun y c h=>?_,fun p hp=>absurd (show p∈([]:List (Addr×Obj)) from hp) (by simp),e0.hok.kept hk,?_⟩
 ·exact name_of_addr x.apart (du h1) (du h2)
 ·have hy:scope.names.lookup y=some .cell\/scope.names.lookup y=some .free:=hy
  rcases hy with hy | hy
  ·exact pZ hy
  ·exact absurd rfl (S.nofree _ (du hy))
 ·exact cg (x.above y c (du h))
 ·have hi:i < vs.length:=by
   unfold dX at h2
   by_cases hi:i < vs.length
   ·exact hi
   ·rw [List.getElem?_append_right (by simpa using hi)] at h2
    rw [List.getElem?_replicate] at h2
    split at h2 <;> cases h2
  have ha:vs[i]?=some v:=by
   unfold dX at h2
   rw [List.getElem?_append_left (by simpa using hi),fe] at h2
   cases e:vs[i]? with
   |none=>rw [e] at h2;cases h2
   |some a=>rw [e] at h2;cases h2;rfl
  obtain ⟨u,hu,rv⟩:=r.get ha
  have hp:ps[i]?=some y:=by
   rw [<- S.pre,List.getElem?_take_of_lt (by omega)];exact h1
  have ndP:ps.Nodup:=by rw [<- S.pre];exact S.nd.sublist (qr _ _)
  refine ⟨u,rv,?_⟩
  rcases S.par y (ay hp) with k | k
  ·exact .inl ⟨k,mY ndP hp hu k⟩
  ·obtain ⟨c,e⟩:=pZ (n:=s.heap.objs.size+1) k
   refine .inr ⟨.inl k,c,e,?_⟩
   have q:=x.cell y c e
   rw [mU ndP hp hu (by show scope.names.lookup y≠_;rw [k];decide)] at q
   exact q
 ·exact e0.hok.fresh (cg (x.above y c (du h)))
 ·unfold dX
  show _=N.length
  rw [ap,ac,gw]
  omega
theorem wX {CX:CXT}{P:Program}{w:World}{K:PySem.W.Frag}{mg:Str->Option Value}{base:Heap}{k:Nat}{f:Addr}{name qual:Str}{params:Arguments}{body:List Stmt}{scope:Scope}{dV kV doc pm cdv ct oc:Value}{an od:Option Addr}
  {osl:Array (Option Value)}{N ps:List Str}{sp:Sp}(lk:K.lookup f=some ⟨oc,od,.func (PySem.W.fnOf name qual params body scope dV kV doc pm an cdv ct),osl⟩) (hcd:PySem.W.codeIn K cdv qual=true) (S:eB N ps scope)
  (len:∀ vs H Q E,sp vs H Q E->vs.length=ps.length)
  (hbody:∀ (A:Around) (outer:List Env) (s:Shared) (H:Hp) (vs:List V) (Q:VK) (E:XK),cF k (A.deeper (envOfC qual scope s.heap.objs.size f cdv))->sp vs H Q E ->
   ∃ t,kE (dP CX P w K mg base N qual scope f cdv A outer s H E) body t/\t { nx:=fun _ H'=>Q .non H',rt:=Q } (dX N vs) H) :
  fU P w K mg base CX (k+1) f (PySem.W.fnOf name qual params body scope dV kV doc pm an cdv ct) ps sp:=by
 refine ⟨len,fun A outer s H args us vs Q E hr e0 hb r hsp=>?_⟩
 have hl:=len _ _ _ _ hsp
 have KX:K.In s.heap:=e0.mod.kin.keeps fun b o e=>(e0.bs b o e).1
 have lim:s.heap.NoLimit:=e0.mod.nolimit.keeps fun b o e=>(e0.bs b o e).1
 have hkind:∀ y∈ps.zip us,scope.names.lookup y.1=some .local\/(scope.names.lookup y.1=some .cell/\((cellsFrom (s.heap.objs.size+1) scope.names []).lookup y.1).isSome=true):=fun ⟨n,v⟩ hy=>by
  rcases S.par n (jl hy).1 with q | q
  ·exact .inl q
  ·exact .inr ⟨q,mo _ _ _ (.inl q)⟩
 refine nr hr.depth (KX _ _ lk) rfl S.co S.gen rfl (PySem.W.codeRec_of KX hcd) (hb _ _ _ _ ?_)
 refine kh S.kind hkind fun env he s1 x=>?_
 subst he
 refine ⟨lim.keeps x.toInCall.keep,codeAny_func ?_⟩
 obtain ⟨t,ht,hq⟩:=hbody A outer s H vs Q E (hr.deeper _) hsp
 have I:aL (dP CX P w K mg base N qual scope f cdv A outer s H E) [] (dX N vs) H s1:=mK S hr.hd e0 hl r x
 refine bi (ht [] s1 (dX N vs) H _ I hq) (fun fl s' hs=>?_) fun e s' hs=>hs
 have fin:∀ {σ':St}{H':Hp}{v:V}{u:Value},aL (dP CX P w K mg base N qual scope f cdv A outer s H E) [] σ' H' s'->bG v u->Q v H'->CE outer P w H s Q u s' :=
  fun {σ' H' v u} J rv q=>⟨v,H',J.os,J.bare,J.base,J.hok,rv,q⟩
 cases fl with
 |ret u =>
  obtain ⟨v,σ',H',J,rv,q⟩:=hs
  exact fin J rv q
 |next =>
  obtain ⟨σ',H',J,q⟩:=hs
  exact fin (v:=V.non) (u:=Value.none) J rfl q
 |brk =>
  obtain ⟨_,_,_,q⟩:=hs
  exact False.elim q
 |cont =>
  obtain ⟨_,_,_,q⟩:=hs
  exact False.elim q
section
variable {X:Cx}{x:Str}{p pos:Pos}{e:Expr}{es:List Expr}{t:TA}{id T:String}{r:List V->Hp->VK->Prop}
def tCB (r:List V->Hp->VK->Prop) (t:TA):TE:=fun σ H Q=>t σ H fun vs H1=>r vs H1 Q
theorem wY (hc:gL X (.builtin id) r) (hg:Gl X x) (hm:X.mg x=none) (hv:bootBuiltins x=some (.builtin id)) (ha:PA X (e :: es) t) (hn:autoParam (x≠"__name__") Rq1._auto_1) (hdb:autoParam ((x == ("__debug__": Str))=false) Rq1._auto_1)
  (he:autoParam (starEach (e :: es) X.env=(false,eval e X.env) :: starEach es X.env) Rq0._auto_1) (hpl:autoParam ((backTo pos (starEach es X.env)).any (·.1)=false) Rq0._auto_1):PE X (.Call (.Name x p) (e :: es) [] pos) (tCB r t):=by
 intro pins s σ H Q I h
 refine fw (iN I hg hm hv ?_ hn hdb)
 refine PyProof.Rows.callWith_builtin1 (bZ (ha pos pins s σ H _ I h) ?_) he hpl;rintro us s1 ⟨vs,H1,I1,r1,q1⟩;exact hc pins s1 σ H1 vs us Q I1 r1 q1
theorem uQ (hc:gL X (.type T) r) (hg:Gl X x) (hm:X.mg x=none) (hv:bootBuiltins x=some (.type T)) (ha:PA X (e :: es) t) (hn:autoParam (x≠"__name__") Rq1._auto_1) (hdb:autoParam ((x == ("__debug__": Str))=false) Rq1._auto_1)
  (he:autoParam (starEach (e :: es) X.env=(false,eval e X.env) :: starEach es X.env) Rq0._auto_1) (hpl:autoParam ((backTo pos (starEach es X.env)).any (·.1)=false) Rq0._auto_1):PE X (.Call (.Name x p) (e :: es) [] pos) (tCB r t):=by
 intro pins s σ H Q I h
 refine fw (iN I hg hm hv ?_ hn hdb)
 refine fv (bZ (ha pos pins s σ H _ I h) ?_) he hpl;rintro us s1 ⟨vs,H1,I1,r1,q1⟩;exact hc pins s1 σ H1 vs us Q I1 r1 q1
end
section
variable {κ: Type} [DecidableEq κ]
def fY (kvs:List (κ×V)) (k:κ):Option V:=(kvs.find? fun kv=>decide (kv.1=k)).map (·.2)
def cZ (kvs:List (κ×V)) (k:κ) (v:V):List (κ×V) :=
 if (kvs.any fun kv=>decide (kv.1=k))=true then kvs.map (fun kv=>if kv.1=k then (kv.1,v) else kv) else kvs++[(k,v)]
theorem gN {k:κ}:fY ([]:List (κ×V)) k=none:=rfl
theorem cY {p:κ×V}{r:List (κ×V)}{k:κ}(e:p.1=k):fY (p :: r) k=some p.2:=by simp [fY,List.find?_cons,e]
theorem aP {p:κ×V}{r:List (κ×V)}{k:κ}(e:¬ p.1=k):fY (p :: r) k=fY r k:=by simp [fY,List.find?_cons,e]
theorem fM (k:κ):∀ kvs:List (κ×V),(kvs.any fun kv=>decide (kv.1=k))=(fY kvs k).isSome
 |[]=>rfl
 |p :: r=>by
  rw [gl]
  by_cases e:p.1=k
  ·simp only [cY e,decide_eq_true e,Bool.true_or,Option.isSome_some]
  ·rw [aP e,bo e,Bool.false_or];exact fM k r
theorem gW (kvs:List (κ×V)) (k:κ) (v:V):(cZ kvs k v).length<=kvs.length+1:=by
 unfold cZ
 split
 ·rw [ac];omega
 ·rw [ap,ef,jm];omega
theorem gT {kvs:List (κ×V)}{k:κ}(v:V) (h:fY kvs k=none):cZ kvs k v=kvs++[(k,v)]:=by
 unfold cZ
 rw [fM,h]
 exact ar (by decide)
theorem iE.isSome_eq {o:Option V}{u:Option Value}(r:iE o u):o.isSome=u.isSome:=by
 cases o with
 |none=>cases u with
  |none=>rfl
  |some _=>exact (show False from r).elim
 |some _=>cases u with
  |none=>exact (show False from r).elim
  |some _=>rfl
theorem KV.val {kvs:List (κ×V)}{vs:List (κ×Value)}(r:KV kvs vs) (k:κ):iE (fY kvs k) (valueAt vs k):=by
 unfold KV at r
 induction r with
 |nil=>exact dw
 |@cons p q ps qs h t ih =>
  obtain ⟨h1,h2⟩:=h
  by_cases e:p.1=k
  ·have e':q.1=k:=h1.symm.trans e
   have b:valueAt (q :: qs) k=some q.2:=by simp [valueAt,List.find?_cons,e']
   rw [cY e,b];exact h2
  ·have e':¬ q.1=k:=fun z=>e (h1.trans z)
   have b:valueAt (q :: qs) k=valueAt qs k:=by simp [valueAt,List.find?_cons,e']
   rw [aP e,b];exact ih
theorem KV.any {kvs:List (κ×V)}{vs:List (κ×Value)}(r:KV kvs vs) (k:κ):(kvs.any fun kv=>decide (kv.1=k))=vs.any fun kv=>decide (kv.1=k):=by
 unfold KV at r
 induction r with
 |nil=>rfl
 |cons h t ih=>rw [gl,gl,ih,h.1]
theorem KV.repl {kvs:List (κ×V)}{vs:List (κ×Value)}(r:KV kvs vs) (k:κ) {y:V}{u:Value}(ry:bG y u) :
  KV (kvs.map fun kv=>if kv.1=k then (kv.1,y) else kv) (vs.map fun kv=>if kv.1=k then (kv.1,u) else kv):=by
 unfold KV at r ⊢
 induction r with
 |nil=>exact .nil
 |@cons p q ps qs h t ih =>
  rw [df,df]
  refine .cons ?_ ih
  obtain ⟨h1,h2⟩:=h
  by_cases e:p.1=k
  ·rw [bj e,bj (h1.symm.trans e)];exact ⟨h1,ry⟩
  ·rw [ar e,ar (fun z=>e (h1.trans z))];exact ⟨h1,h2⟩
theorem KV.put {kvs:List (κ×V)}{vs:List (κ×Value)}(r:KV kvs vs) (k:κ) {y:V}{u:Value}(ry:bG y u):KV (cZ kvs k y) (stored vs k u):=by
 unfold cZ stored
 rw [r.any k]
 by_cases e:(vs.any fun kv=>decide (kv.1=k))=true
 ·rw [bj e,bj e];exact r.repl k ry
 ·rw [ar e,ar e];exact Paired.snoc r ⟨rfl,ry⟩
theorem KV.length {kvs:List (κ×V)}{vs:List (κ×Value)}(r:KV kvs vs):kvs.length=vs.length:=ke r
end
theorem sV {P:Program}{w:World}{k:Key}{u:Value}(r:bG (kV k) u):(bY P w).is k u=true:=by
 cases k with
 |inl i=>obtain ⟨t,e⟩:=(show ∃ t,u=Value.int i t from r);subst e;exact pO P w i t
 |inr x=>obtain ⟨t,e⟩:=(show ∃ t,u=Value.str x t from r);subst e;exact oZ P w x t
theorem mQ {P:Program}{w:World}:∀ {ks:List Key}{us:List Value},aV (ks.map kV) us->ItemsAre (bY P w) ks us
 |[],_,r=>by rw [ky] at r;cases r;exact .nil
 |k :: ks,_,r=>by
  rw [df] at r
  cases r with
  |cons h t=>exact .cons (sV h) (mQ t)
abbrev KT (H:Hp):List (List Key×V)->List (List Key×Addr×Value)->Prop:=Paired fun p q=>p.1=q.1/\H q.2.1=some (.tup (p.1.map kV))/\bG p.2 q.2.2
theorem KT.val {H:Hp}{kvs:List (List Key×V)}{xs:List (List Key×Addr×Value)}(r:KT H kvs xs) (k:List Key):iE (fY kvs k) ((atKey xs k).map (·.2)):=by
 induction r with
 |nil=>exact dw
 |@cons p q ps qs h t ih =>
  obtain ⟨h1,_,h2⟩:=h
  by_cases e:p.1=k
  ·have e':q.1=k:=h1.symm.trans e
   have b:atKey (q :: qs) k=some q.2:=by simp [atKey,List.find?_cons,e']
   rw [cY e,b];exact h2
  ·have e':¬ q.1=k:=fun z=>e (h1.trans z)
   have b:atKey (q :: qs) k=atKey qs k:=by simp [atKey,List.find?_cons,e']
   rw [aP e,b];exact ih
theorem KT.repl {H:Hp}{kvs:List (List Key×V)}{xs:List (List Key×Addr×Value)}(r:KT H kvs xs) (k:List Key) {y:V}{u:Value}(ry:bG y u) :
  KT H (kvs.map fun kv=>if kv.1=k then (kv.1,y) else kv) (xs.map (putAt k u)):=by
 induction r with
 |nil=>exact .nil
 |@cons p q ps qs h t ih =>
  rw [df,df]
  refine .cons ?_ ih
  obtain ⟨h1,h2,h3⟩:=h
  unfold putAt
  by_cases e:p.1=k
  ·rw [bj e,bj (h1.symm.trans e)];exact ⟨h1,h2,ry⟩
  ·rw [ar e,ar (fun z=>e (h1.trans z))];exact ⟨h1,h2,h3⟩
theorem KT.put {H:Hp}{kvs:List (List Key×V)}{xs:List (List Key×Addr×Value)}(r:KT H kvs xs) (k:List Key) {b:Addr}{y:V}{u:Value}(hb:H b=some (.tup (k.map kV))) (ry:bG y u) :
  KT H (cZ kvs k y) (storedH xs k b u):=by
 have e:(kvs.any fun kv=>decide (kv.1=k))=(atKey xs k).isSome:=by
  rw [fM,(r.val k).isSome_eq,Option.isSome_map]
 unfold cZ storedH
 rw [e]
 by_cases q:(atKey xs k).isSome=true
 ·rw [bj q,bj q];exact r.repl k ry
 ·rw [ar q,ar q];exact Paired.snoc r ⟨rfl,hb,ry⟩
theorem KT.keeps {H H':Hp}{kvs:List (List Key×V)}{xs:List (List Key×Addr×Value)}(r:KT H kvs xs) (ht:∀ b ys,H b=some (.tup ys)->H' b=some (.tup ys)):KT H' kvs xs :=
 Paired.mapP r fun _ _ z=>⟨z.1,ht _ _ z.2.1,z.2.2⟩
section
variable {P:Program}{w:World}{H:Hp}{h:Heap}{a:Addr}
theorem aA6 {u:HO}(ok:fF P w H h) (e:Rd H a u):bL P w H h a u:=e.ok ok
theorem yC {kvs:List (Key×V)}(ok:fF P w H h) (e:Rd H a (.dK kvs)):kvs.length<=sizeLine/\(a == sysModules)=false/\∃ vs,KV kvs vs/\h.DictOf (bY P w) a vs :=
 show bL P w H h a (.dK kvs) from aA6 ok e
theorem aB2 {kvs:List (Key×V)}(ok:fF P w H h) (e:H a=some (.dK kvs)):kvs.length<=sizeLine/\(a == sysModules)=false/\∃ vs,KV kvs vs/\h.DictOf (bY P w) a vs:=yC ok (.inl e)
theorem qX {ks:List Key}(ok:fF P w H h) (e:H a=some (.tup (ks.map kV))):(tupleKind (bY P w)).is h ks a:=by
 obtain ⟨_,its,r,o,h1,h2,n,h3,_⟩:=(show bL P w H h a (.tup (ks.map kV)) from ok a _ e)
 exact ⟨o,its.toArray,n,h1,h2,h3,by simpa using mQ r⟩
theorem xV {kvs:List (List Key×V)}(ok:fF P w H h) (e:Rd H a (.dT kvs)):kvs.length<=sizeLine/\(a == sysModules)=false /\
  ∃ xs,KT H kvs xs/\h.DictOfH (tupleKind (bY P w)) a xs:=by
 obtain ⟨z,y,xs,r,o,es,ep,h1,h2,h3,h4,h5⟩:=(show bL P w H h a (.dT kvs) from aA6 ok e)
 refine ⟨z,y,xs,r,o,es,ep,h1,h2,h3,h4,fun x hx=>?_,h5⟩
 have all:∀ {l:List (List Key×V)}{m:List (List Key×Addr×Value)},KT H l m->∀ x∈m,(tupleKind (bY P w)).is h x.1 x.2.1:=by
  intro l m q
  induction q with
  |nil=>intro x hx;exact nomatch hx
  |@cons p q ps qs hq t ih =>
   intro x hx
   rcases bv.mp hx with e | hx
   ·subst e
    exact qX ok (by rw [<- hq.1];exact hq.2.1)
   ·exact ih x hx
 exact all r x hx
theorem aS5 {kvs:List (List Key×V)}(ok:fF P w H h) (e:H a=some (.dT kvs)):kvs.length<=sizeLine/\(a == sysModules)=false /\
  ∃ xs,KT H kvs xs/\h.DictOfH (tupleKind (bY P w)) a xs:=xV ok (.inl e)
end
def eK (H:Hp) (a:Addr) (y:V) (r:Option V):Prop :=
 (∃ kvs k,Rd H a (.dK kvs)/\y=kV k/\r=fY kvs k)\/∃ kvs k b,Rd H a (.dT kvs)/\y= .ref b/\H b=some (.tup (k.map kV))/\r=fY kvs k
def lZ (H:Hp) (a:Addr) (y v:V) (H':Hp):Prop :=
 (∃ kvs k,H a=some (.dK kvs)/\y=kV k/\kvs.length < sizeLine/\H'=aN H a (.dK (cZ kvs k v))) \/
 ∃ kvs k b,H a=some (.dT kvs)/\y= .ref b/\H b=some (.tup (k.map kV))/\kvs.length < sizeLine/\H'=aN H a (.dT (cZ kvs k v))
theorem eK.k {H:Hp}{a:Addr}{kvs:List (Key×V)}{k:Key}(e:H a=some (.dK kvs)):eK H a (kV k) (fY kvs k):= .inl ⟨kvs,k,.inl e,rfl,rfl⟩
theorem lZ.k {H:Hp}{a:Addr}{kvs:List (Key×V)}{k:Key}{v:V}(e:H a=some (.dK kvs)) (hl:kvs.length < sizeLine):lZ H a (kV k) v (aN H a (.dK (cZ kvs k v))):= .inl ⟨kvs,k,e,rfl,hl,rfl⟩
section
variable {X:Cx}{pins:List (Addr×Obj)}{σ: St}{H:Hp}{s:Shared}{a:Addr}{y v:V}{u r:Value}{o:Option V}{A:Around}{E:Value->Shared->Prop}
theorem aL.big (I:aL X pins σ H s):sysModules < s.heap.objs.size:=by
 have h:mainGlobals < s.heap.objs.size:=(I.mod.glob.keeps I.bk).lt
 exact Nat.lt_trans (by decide) h
theorem uA {Q:Value->Shared->Prop}(hu:A.units+1 < cLine) (I:aL X pins σ H s) (g:eK H a y (some v)) (ry:bG y u) (h:∀ w' s',aL X pins σ H s'->bG v w'->Q w' s') :
  wpAny (model X.prog X.w) A (getItem (.ref a) u) Q E s:=by
 rcases g with ⟨kvs,k,e,ey,l⟩ | ⟨kvs,k,b,e,ey,eb,l⟩
 ·subst ey
  obtain ⟨z,hd,vs,rel,dd⟩:=yC I.hok e
  obtain ⟨w',hw,rw'⟩:=iE.some_of (v:=v) (o:=valueAt vs k) (by rw [l];exact rel.val k)
  exact wpAny_getItem_of (sV ry) dd.mapOf hw (h w' _ (I.tok _) rw')
 ·subst ey
  cases (show u=Value.ref b from ry)
  obtain ⟨z,hd,xs,rel,dd⟩:=xV I.hok e
  obtain ⟨w',hw,rw'⟩:=iE.some_of (v:=v) (o:=(atKey xs k).map (·.2)) (by rw [l];exact rel.val k)
  obtain ⟨p,hp,hp2⟩:=Option.map_eq_some_iff.mp hw
  refine wpAny_getItem_heap (pp hu) (qX I.hok eb) dd hp ?_
  rw [hp2]
  exact h w' _ (I.tok _) rw'
theorem oJ {h':Heap}{t':Nat}{ob:HO}(I:aL X pins σ H s) (mu:Mut (H a)) (hs:Heap.SameBut a s.heap h') (he:∃ q,h'.get? a=some q) (new:bL X.prog X.w (aN H a ob) h' a ob) :
  aL X pins σ (aN H a ob) { s with heap:=h',toks:=t' } :=
 I.write (x:=a) (e:=a) mu (.inl rfl) (fun b q hb z=>(hs.2 b hb).trans z) he new
theorem vX {P:Program}{w:World}{H':Hp}{h':Heap}{kvs:List (Key×V)}{vs:List (Key×Value)}(z:kvs.length<=sizeLine) (hd:(a == sysModules)=false) (rel:KV kvs vs) (dd:h'.DictOf (bY P w) a vs) :
  bL P w H' h' a (.dK kvs):=⟨z,hd,vs,rel,dd⟩
theorem tV {H':Hp}{Q:Unit->Shared->Prop}(hu:A.units+1 < cLine) (I:aL X pins σ H s) (g:lZ H a y v H') (ry:bG y u) (rv:bG v r) (h:∀ s',aL X pins σ H' s'->Q () s') :
  wpAny (model X.prog X.w) A (setItem (.ref a) u r) Q E s:=by
 rcases g with ⟨kvs,k,e,ey,l,eH⟩ | ⟨kvs,k,b,e,ey,eb,l,eH⟩
 ·subst ey eH
  obtain ⟨z,hd,vs,rel,dd⟩:=aB2 I.hok e
  have hz:vs.length<=sizeLine:=by rw [<- rel.length];exact z
  have hl:(cZ kvs k v).length<=sizeLine:=by have:=gW kvs k v;omega
  refine wpAny_setItem_pairs (hsz:=hz) (sV ry) dd fun h' dd' hs=>h _ ?_
  have he:∃ q,h'.get? a=some q:=by obtain ⟨q,_,_,hq,_⟩:=dd';exact ⟨q,hq⟩
  exact oJ I (by rw [e];exact dw) hs he (vX hl hd (rel.put k rv) dd')
 ·subst ey eH
  cases (show u=Value.ref b from ry)
  obtain ⟨z,hd,xs,rel,dd⟩:=aS5 I.hok e
  have hz:xs.length<=sizeLine:=by rw [<- ke rel];exact z
  have hl:(cZ kvs k v).length<=sizeLine:=by have:=gW kvs k v;omega
  refine wpAny_setItem_heap (hsz:=hz) (pp hu) (qX I.hok eb) dd fun h' dd' hs=>h _ ?_
  obtain ⟨q,es,ep,hq,h2,h3,h4,_,h5⟩:=dd'
  refine oJ I (by rw [e];exact dw) hs ⟨q,hq⟩ ⟨hl,hd,_,(rel.put k eb rv).keeps fun c ys ec=>?_,q,es,ep,hq,h2,h3,h4,h5⟩
  rw [aH (iW ec e (fun z=>nomatch z))]
  exact ec
end
section
variable {X:Cx}{pins:List (Addr×Obj)}{σ: St}{H:Hp}{s:Shared}{a:Addr}{kvs:List (Key×V)}{k:Key}{u:Value}{A:Around}{E:Value->Shared->Prop}
end
def aJ2 (i:Expr):Prop:=∀ ov iv,subscripted i false ov iv=operate [ov,iv] (getItem ov iv)
theorem zL {prog:Program}{w:World}{A:Around}{E:Value->Shared->Prop}{s:Shared}{env:Env}{value slice:Expr}{pos:Pos}{T id:String}{Q:Value->Shared->Prop}
  (hl:typeLookup (.type T) "__getitem__"=pure (some (.builtin id))) (hs:aJ2 slice)
  (h:wpAny (model prog w) A (eval value env) (fun o s₁=>wpAny (model prog w) A (eval slice env) (fun i s₂=>s₂.TypeIs o T/\wpAny (model prog w) A (getItem o i) Q E s₂) E s₁) E s) :
  wpAny (model prog w) A (eval (.Subscript value slice pos) env) Q E s:=by
 refine rh (bi h (fun o s₁ h₁=>bi h₁ (fun i s₂ h₂=>?_) fun _ _ x=>x) fun _ _ x=>x)
 obtain ⟨hT,h₂⟩:=h₂
 unfold subscriptTail
 refine aa ?_
 rw [getitemInPython_of_ne hT.not_modules]
 refine aa (wpAny_specialOf hT hl ?_)
 have fin:wpAny (model prog w) A (subscripted slice false o i) (fun r s₃=>wpAny (model prog w) A (letTemporaryGo value o r >>= fun _=>pure r) Q E s₃) E s₂:=by
  rw [hs o i]
  exact wpAny_operating (bi h₂ (fun r s₃ h₃=>aa (wpAny_letTemporaryGo (am h₃))) fun _ _ x=>x)
 first
  |exact am (aa fin)
  |exact aa (am (aa fin))
  |exact aa fin
theorem pN {X:Cx}{pins:List (Addr×Obj)}{σ: St}{H:Hp}{s:Shared}{a:Addr}{y:V}{o:Option V}(I:aL X pins σ H s) (g:eK H a y o):s.TypeIs (.ref a) "dict":=by
 rcases g with ⟨kvs,k,e,_,_⟩ | ⟨kvs,k,b,e,_,_,_⟩
 ·obtain ⟨_,_,vs,_,dd⟩:=yC I.hok e
  exact dd.typeIs
 ·obtain ⟨_,_,xs,_,dd⟩:=xV I.hok e
  exact dd.typeIs
def aC4 (td ty:TE):TE:=fun σ H Q=>td σ H fun x H1=>ty σ H1 fun y H2=>∃ a v,x= .ref a/\eK H2 a y (some v)/\Q v H2
def aA4 (td ty tv:TE):TS:=fun D σ H=>tv σ H fun v H1=>td σ H1 fun x H2=>ty σ H2 fun y H3=>∃ a H4,x= .ref a/\lZ H3 a y v H4/\D.nx σ H4
section
variable {X:Cx}{o i e value:Expr}{pos pos' tpos:Pos}{td ty tv:TE}
theorem zP (hu:X.A.units+1 < cLine) (ho:PE X o td) (hi:PE X i ty) (hs:aJ2 i):PE X (.Subscript o i pos) (aC4 td ty):=by
 intro pins s σ H Q I h
 refine zL PySem.F.slot_dict_getitem.lookup hs (bZ (ho pins s σ H _ I h) ?_);rintro u s1 ⟨x,H1,I1,rx,q1⟩;refine bZ (hi pins s1 σ H1 _ I1 q1) ?_;rintro iv s2 ⟨y,H2,I2,ry,a,v,ex,g,q2⟩
 subst ex
 obtain rfl:u=Value.ref a:=rx
 exact ⟨pN I2 g,uA hu I2 g ry fun w' s3 I3 rw'=>⟨v,H2,I3,rw',q2⟩⟩
theorem yL (hu:X.A.units+1 < cLine) (ho:PE X o td) (hi:PE X i ty) (hv:PE X value tv) (hs:swapsWith value (some (.Subscript o i pos')) pos.line X.env=pure false) :
  PS X (.Assign [.Subscript o i pos'] value pos) (aA4 td ty tv):=by
 intro pins s σ H D I h
 refine wpAny_Assign_Subscript (bZ (hv pins s σ H _ I h) ?_) hs;rintro r s1 ⟨v,H1,I1,rv,q1⟩;refine bZ (ho pins s1 σ H1 _ I1 q1) ?_;rintro u s2 ⟨x,H2,I2,rx,q2⟩;refine bZ (hi pins s2 σ H2 _ I2 q2) ?_;rintro iv s3 ⟨y,H3,I3,ry,a,H4,ex,g,q3⟩
 subst ex
 obtain rfl:u=Value.ref a:=rx
 exact tV hu I3 g ry rv fun s4 I4=>⟨σ,H4,I4,q3⟩
end
theorem oW {P:Program}{w:World}{H:Hp}(h:Heap) (hb:sysModules < h.objs.size):bL P w H (h.push { cls:= .type "dict",data:= .dict #[] }) h.objs.size (.dK []) :=
 ⟨bh _,jv.mpr (Ne.symm (av hb)),[],.nil,Heap.DictOf.new h⟩
def tDNewK:TE:=fun _ H Q=>∀ p,H p=none->Q (.ref p) (aN H p (.dK []))
section
variable {X:Cx}{pos:Pos}
theorem pU:PE X (.Dict [] [] pos) tDNewK:=fun pins s σ H Q I h =>
 wpAny_Dict_empty ⟨.ref s.heap.objs.size,_,I.laid (a:=s.heap.objs.size) (o:= .dK []) (t':=s.toks) (fun _ _ q=>af _ q) (ae _) (oW s.heap I.big),rfl,h _ (I.hok.fresh (ae _))⟩
end
def qV:List (TE×TE)->St->Hp->(List (V×V)->Hp->Prop)->Prop
 |[],_,H,Q=>Q [] H
 |(tk,tv) :: r,σ,H,Q=>tk σ H fun x H1=>tv σ H1 fun y H2=>qV r σ H2 fun ps H3=>Q ((x,y) :: ps) H3
abbrev VV:List (V×V)->List (Value×Value)->Prop:=Paired fun p q=>bG p.1 q.1/\bG p.2 q.2
def PPs (X:Cx) (pos:Pos) (keys:List (Option Expr)) (values:List Expr) (trs:List (TE×TE)):Prop :=
 ∀ (pins:List (Addr×Obj)) (s:Shared) (σ: St) (H:Hp) (Q:List (V×V)->Hp->Prop),aL X pins σ H s->qV trs σ H Q ->
  wpAny (model X.prog X.w) X.A (evalPairs (pairTrees keys values X.env pos)) (fun vs s'=>∃ ps H',aL X pins σ H' s'/\VV ps vs/\Q ps H') X.xe s
theorem yI {X:Cx}{pos:Pos}:PPs X pos [] [] []:=fun pins s σ H Q I h=>pairTrees_nil_walk ⟨[],H,I,.nil,h⟩
theorem fH {X:Cx}{pos:Pos}{k v:Expr}{ks:List (Option Expr)}{vs:List Expr}{tk tv:TE}{trs:List (TE×TE)}(hk:PE X k tk) (hv:PE X v tv) (hr:PPs X pos ks vs trs) :
  PPs X pos (some k :: ks) (v :: vs) ((tk,tv) :: trs):=fun pins s σ H Q I h =>
 pairTrees_cons_walk (bZ (hk pins s σ H _ I h) fun u s1 ⟨x,H1,I1,rx,q1⟩=>bZ (hv pins s1 σ H1 _ I1 q1) fun w2 s2 ⟨y,H2,I2,ry,q2⟩ =>
  bZ (hr pins s2 σ H2 _ I2 q2) (by rintro ws s3 ⟨ps,H3,I3,rel,q3⟩;exact ⟨(x,y) :: ps,H3,I3,.cons ⟨rx,ry⟩ rel,q3⟩))
def iJ (kvs more:List (Key×V)):List (Key×V):=more.foldl (fun acc kv=>cZ acc kv.1 kv.2) kvs
theorem KV.merge:∀ {more:List (Key×V)}{rs:List (Key×Value)}{kvs:List (Key×V)}{vs:List (Key×Value)},KV more rs->KV kvs vs->KV (iJ kvs more) (merged vs rs):=by
 intro more rs kvs vs r
 unfold KV at r
 induction r generalizing kvs vs with
 |nil=>intro q;exact q
 |@cons p q ps qs h t ih =>
  intro r0
  have e:KV (cZ kvs p.1 p.2) (stored vs q.1 q.2):=by
   have:=r0.put p.1 h.2
   rw [<- h.1];exact this
  exact ih e
theorem iF:∀ (more kvs:List (Key×V)),(iJ kvs more).length<=kvs.length+more.length
 |[],kvs=>by show kvs.length<=kvs.length+0;omega
 |p :: r,kvs=>by
  have h1:=iF r (cZ kvs p.1 p.2)
  have h2:=gW kvs p.1 p.2
  show (iJ (cZ kvs p.1 p.2) r).length<=_
  rw [ef];omega
theorem lB {P:Program}{w:World}:∀ {kvs:List (Key×V)}{ws:List (Value×Value)},VV (kvs.map fun kv=>(kV kv.1,kv.2)) ws->∃ rs,Carries (bY P w) ws rs/\KV kvs rs
 |[],_,r=>by rw [ky] at r;cases r;exact ⟨[],dw,.nil⟩
 |p :: kvs,_,r=>by
  rw [df] at r
  cases r with
  |@cons a b as bs h t =>
   obtain ⟨rs,c,q⟩:=lB (P:=P) (w:=w) t
   obtain ⟨b1,b2⟩:=b
   exact ⟨(p.1,b2) :: rs,⟨sV h.1,rfl,c⟩,.cons ⟨rfl,h.2⟩ q⟩
def aN6 (trs:List (TE×TE)):TE:=fun σ H Q=>∀ p,H p=none->qV trs σ (aN H p (.dK [])) fun ps H2=>H2 p=some (.dK [])/\∃ kvs:List (Key×V),ps=kvs.map (fun kv=>(kV kv.1,kv.2))/\kvs.length<=15/\Q (.ref p) (aN H2 p (.dK (iJ [] kvs)))
theorem yW {X:Cx}{pos:Pos}{keys:List (Option Expr)}{values:List Expr}{trs:List (TE×TE)}(h:PPs X pos keys values trs) (hall:keys.all (·.isSome)=true) (hl:keys.length=values.length) (h0:keys≠[])
  (h15:keys.length<=15):PE X (.Dict keys values pos) (aN6 trs):=by
 intro pins s σ H Q I q
 have hn:=I.hok.fresh (ae s.heap.objs.size)
 have I1:=I.laid (a:=s.heap.objs.size) (o:= .dK []) (h':=s.heap.push { cls:= .type "dict",data:= .dict #[] }) (t':=s.toks) (fun _ _ q=>af _ q) (ae _) (oW s.heap I.big)
 refine wpAny_Dict_walk (knd:=bY X.prog X.w) hall hl h0 h15 (bZ (h pins _ σ _ _ I1 (q _ hn)) ?_);rintro ws s2 ⟨ps,H2,I2,rel,e,kvs,ep,lk,q2⟩
 subst ep
 obtain ⟨rs,c,rk⟩:=lB (P:=X.prog) (w:=X.w) rel
 obtain ⟨z,hd,vs0,r0,dd⟩:=aB2 I2.hok e
 cases r0
 refine ⟨rs,c,dd,fun h' dd' hs=>⟨.ref s.heap.objs.size,_,?_,rfl,q2⟩⟩
 have hz:(iJ [] kvs).length<=sizeLine:=by
  have h1:=iF kvs []
  rw [jm] at h1
  rw [jx];omega
 have he:∃ q,h'.get? s.heap.objs.size=some q:=by obtain ⟨q,_,_,hq,_⟩:=dd';exact ⟨q,hq⟩
 exact oJ I2 (by rw [e];exact dw) hs he (vX hz hd (rk.merge .nil) dd')
structure M1 (X:Cx) (o:Expr) (m:Str) (apos:Pos) (e:Expr) (cpos:Pos):Prop where
 base:attributeBase o m X.env (eval o X.env)=eval o X.env
 few:((backTo cpos (starEach [e] X.env)).all (fun x=> !x.1) && (backToKw cpos (keywordEach [] X.env)).all (fun x=>x.1.isSome)
  && decide (([e]:List Expr).length+([]:List Keyword).length+(if ([]:List Keyword).isEmpty then 0 else 1) < 30))=true
 line:(apos.endLine == cpos.line)=true
 trees:backTo cpos (starEach [e] X.env)=[(false,eval e X.env)]
section
variable {X:Cx}{pins:List (Addr×Obj)}{σ: St}{H:Hp}{s:Shared}{a:Addr}{y d:V}{u r:Value}{o:Option V}{A:Around}{E:Value->Shared->Prop}
end
section
variable {X:Cx}{o e f:Expr}{apos cpos:Pos}{td ty tx:TE}
end
section
variable {X:Cx}{pins:List (Addr×Obj)}{σ: St}{H:Hp}{s:Shared}{a:Addr}{kvs:List (Key×V)}{A:Around}{E:Value->Shared->Prop}
end
section
variable {X:Cx}{pins:List (Addr×Obj)}{σ: St}{H:Hp}{s:Shared}{a:Addr}{y:V}{u:Value}{A:Around}{E:Value->Shared->Prop}
end
end L2
namespace HT
open PySem PyProof.Rows
section
open PySem.SeqAt
open PySem.AutoSeq1 (wpAny_loadPart')
open PySem.MeetsSeq PySem.MeetsSeq2 PySem.MeetsSeq3
end
section
variable {prog:Program}{w:World}{A:Around}{E:Value->Shared->Prop}{s:Shared}
theorem cat_tup {t b:Addr}{vs ws:List Value}{Q:Value->Shared->Prop}(ht:IsTup s.heap t vs.toArray) (hb:IsTup s.heap b ws.toArray) (hv:vs≠[])
  (h1:ws=[]->Q (.ref t) s) (h2:ws≠[]->Q (.ref s.heap.objs.size) { s with heap:=s.heap.push { cls:= .type "tuple",data:= .seq (vs++ws).toArray } })
  (hsz:vs.length+ws.length<=sizeLine):wpAny (model prog w) A (binaryOp .Add (.ref t) (.ref b)) Q E s:=by
 obtain ⟨⟨cls,dd,data,sl⟩,ho,hc,n,hd⟩:=id ht
 obtain ⟨⟨cls2,dd2,data2,sl2⟩,ho2,hc2,n2,hd2⟩:=id hb
 simp only at hc hd hc2 hd2
 subst hc hd hc2 hd2
 have e:vs.toArray++ws.toArray=(vs++ws).toArray:=by simp
 by_cases hw:ws=[]
 ·exact concat_meets ⟨_,ho,rfl⟩ ⟨_,ho2,rfl⟩ noFill_tuple_add seq_tuple_add PySem.F.slot_tuple_add PySem.F.entry_tuple_add (PySem.F.args_tuple_add_2 _ _)
   (tuple_addW1 t b vs.toArray ws.toArray n n2 dd dd2 sl sl2 (by simpa using hv) (by simp [hw])) ⟨ho,ho2,h1 hw⟩
 ·refine concat_meets ⟨_,ho,rfl⟩ ⟨_,ho2,rfl⟩ noFill_tuple_add seq_tuple_add PySem.F.slot_tuple_add PySem.F.entry_tuple_add (PySem.F.args_tuple_add_2 _ _)
   (tuple_addW2 t b vs.toArray ws.toArray n n2 dd dd2 sl sl2 (by simpa using hv) (by simpa using hw) (by rw [List.size_toArray,List.size_toArray];exact hsz)) ⟨ho,ho2,?_⟩
  rw [e]
  exact h2 hw
def sIx (n d:Nat):Option Int->Nat
 |none=>d
 |some v=>if v < 0 then (v+(n:Int)).toNat else min v.toNat n
end
end HT
namespace L2
open PySem PySem.Spec PyProof.Rows
abbrev TO:=St->Hp->(Option Int->Hp->Prop)->Prop
def PO (X:Cx) (e:Option Expr) (t:TO):Prop :=
 ∀ (pins:List (Addr×Obj)) (s:Shared) (σ: St) (H:Hp) (Q:Option Int->Hp->Prop),aL X pins σ H s->t σ H Q ->
  wpAny (model X.prog X.w) X.A (evalPart e X.env) (fun u s'=>∃ o H',aL X pins σ H' s'/\IsPart u o/\Q o H') X.xe s
def aT4 (t:TE):TO:=fun σ H Q=>t σ H fun x H1=>∃ i,x= .int i/\Q (some i) H1
section
variable {X:Cx}{e:Expr}{te:TE}{lo hi:Option Expr}{tl th:TO}{pos p2:Pos}
theorem sX (h:PE X e te):PO X (some e) (aT4 te):=by
 intro pins s σ H Q I hw
 rw [evalPart_some]
 refine bZ (h pins s σ H _ I hw) ?_;rintro u s1 ⟨x,H1,I1,r1,q1⟩
 obtain ⟨i,rfl,q⟩:=q1
 obtain ⟨t,rfl⟩:=r1
 exact ⟨some i,H1,I1,.int i t,q⟩
def SlR (X:Cx) (r:V->Option Int->Option Int->Hp->VK->Prop):Prop :=
 ∀ (pins:List (Addr×Obj)) (s:Shared) (σ: St) (H:Hp) (x:V) (v vl vu:Value) (lo hi:Option Int) (sl:Addr) (Q:VK),aL X pins σ H s->bG x v->s.heap.IsSliceOf sl vl vu .none->IsPart vl lo->IsPart vu hi->r x lo hi H Q ->
  ∃ T id,typeLookup (.type T) "__getitem__"=pure (some (.builtin id))/\s.TypeIs v T/\wpAny (model X.prog X.w) X.A (getItem v (.ref sl)) (EP X pins σ Q) X.xe s
def tSl (r:V->Option Int->Option Int->Hp->VK->Prop) (te:TE) (tl th:TO):TE:=fun σ H Q=>te σ H fun x H1=>tl σ H1 fun l H2=>th σ H2 fun u H3=>r x l u H3 Q
theorem xP {r:V->Option Int->Option Int->Hp->VK->Prop}(hr:SlR X r) (he:PE X e te) (hl:PO X lo tl) (hu:PO X hi th):PE X (.Subscript e (.Slice lo hi none p2) pos) (tSl r te tl th):=by
 intro pins s σ H Q I h
 refine rh (bZ (he pins s σ H _ I h) ?_);rintro v s1 ⟨x,H1,I1,r1,q1⟩
 refine wpAny_Slice (bZ (hl pins s1 σ H1 _ I1 q1) ?_);rintro vl s2 ⟨l,H2,I2,pl,q2⟩;refine bZ (hu pins s2 σ H2 _ I2 q2) ?_;rintro vu s3 ⟨u,H3,I3,pu,q3⟩
 rw [evalPart_none]
 refine am ?_
 have I4:aL X pins σ H3 { s3 with heap:=s3.heap.push { cls:= .type "slice",data:= .fields #[vl,vu,.none] } }:=I3.kept (t':=s3.toks) fun b ob q=>af _ q
 obtain ⟨T,id,hT,ht,hg⟩:=hr pins { s3 with heap:=s3.heap.push { cls:= .type "slice",data:= .fields #[vl,vu,.none] } } σ H3 x v vl vu l u s3.heap.objs.size Q I4 r1 (Heap.IsSliceOf.new ..) pl pu q3
 show wpAny (model X.prog X.w) X.A (subscriptTail e (.Slice lo hi none p2) v (.ref s3.heap.objs.size)) (EP X pins σ Q) X.xe { s3 with heap:=s3.heap.push { cls:= .type "slice",data:= .fields #[vl,vu,.none] } }
 exact tail_any (ops:=[.ref s3.heap.objs.size,v]) ht hT hg (by with_unfolding_all rfl)
def oG (xs:List V) (lo hi:Option Int):List V:=(xs.drop (HT.sIx xs.length 0 lo)).take (HT.sIx xs.length xs.length hi - HT.sIx xs.length 0 lo)
theorem qC (xs:List V) (lo hi:Option Int):(oG xs lo hi).length<=xs.length:=by
 unfold oG
 rw [bq,rc]
 omega
def aN9 (K:PySem.W.Frag):R2:=fun x y H Q=>∃ a b xs ys,x= .ref a/\y= .ref b/\bA K H a xs/\bA K H b ys/\xs≠[]/\xs.length+ys.length<=sizeLine /\
 (ys=[]->Q (.ref a) H)/\(ys≠[]->∀ p,H p=none->Q (.ref p) (aN H p (.tup (xs++ys))))
theorem aV.nil_iff {xs:List V}{us:List Value}(r:aV xs us):us=[]↔xs=[]:=by
 cases r with
 |nil=>simp
 |cons _ _=>simp
theorem zK:gD X (binaryOp .Add) (aN9 X.K):=by
 intro pins s σ H x y v u Q I rx ry h
 obtain ⟨a,b,xs,ys,rfl,rfl,ha,hb,hx,hz,q1,q2⟩:=h
 cases rx
 cases ry
 obtain ⟨its,r1,p1,_⟩:=I.tuple ha
 obtain ⟨its2,r2,p2,_⟩:=I.tuple hb
 refine HT.cat_tup p1 p2 (fun z=>hx (r1.nil_iff.mp z)) (fun z=>⟨.ref a,H,I,rfl,q1 (r2.nil_iff.mp z)⟩) (fun z=>?_) (by rw [<- r1.length, <- r2.length];exact hz)
 refine ⟨.ref s.heap.objs.size,_,I.laid (t':=s.toks) (o:= .tup (xs++ys)) (fun b ob q=>af _ q) (ae _) ?_,rfl,q2 (fun w=>z (r2.nil_iff.mpr w)) _ (I.hok.fresh (ae _))⟩
 exact ⟨by rw [ap];exact hz,_,r1.append r2,iO.new _ _⟩
end
def ixN (n:Nat) (i:Int):Option Nat:=if 0<=i then (if i < n then some i.toNat else none) else if -(n:Int)<=i then some (i+n).toNat else none
def jH {α: Type}(xs:List α) (i:Int):Option α:=(ixN xs.length i).bind fun j=>xs[j]?
theorem sP {n:Nat}{i:Int}{j:Nat}(h:ixN n i=some j):seqIndex? i n=some j/\j < n/\ -(n:Int)<=i/\i < n:=by
 unfold ixN at h
 by_cases h0:0<=i
 ·rw [bj h0] at h
  by_cases h1:i < n
  ·rw [bj h1] at h
   have e:i.toNat=j:=ci h
   exact ⟨by rw [mq h0 h1,e],by omega,by omega,h1⟩
  ·rw [ar h1] at h;cases h
 ·rw [ar h0] at h
  by_cases h1: -(n:Int)<=i
  ·rw [bj h1] at h
   have e:(i+n).toNat=j:=ci h
   exact ⟨by rw [qd (by omega) h1,e],by omega,h1,by omega⟩
  ·rw [ar h1] at h;cases h
theorem oH {α: Type}{xs:List α}{i:Int}{v:α}(h:jH xs i=some v):∃ j,seqIndex? i xs.length=some j/\xs[j]?=some v/\j < xs.length/\ -(xs.length:Int)<=i/\i < xs.length:=by
 unfold jH at h
 cases e:ixN xs.length i with
 |none=>rw [e] at h;cases h
 |some j =>
  rw [e] at h
  obtain ⟨h1,h2,h3,h4⟩:=sP e
  exact ⟨j,h1,h,h2,h3,h4⟩
theorem oO {α: Type}{xs:List α}{j:Nat}{v:α}(h:xs[j]?=some v):jH xs (j:Int)=some v:=by
 have hj:j < xs.length:=(bu.mp h).1
 have e:ixN xs.length (j:Int)=some j:=by
  unfold ixN
  rw [bj (by omega),bj (by omega)];simp
 unfold jH;rw [e];exact h
def sU (b:Expr):Prop:=∀ o i,subscripted b false o i=operate [o,i] (getItem o i)
def IxR (X:Cx) (r:R2):Prop :=
 ∀ (value slice:Expr) (pins:List (Addr×Obj)) (s:Shared) (σ: St) (H:Hp) (x y:V) (v u:Value) (Q:VK),aL X pins σ H s->bG x v->bG y u->r x y H Q ->
  subscripted slice false v u=operate [v,u] (getItem v u)->wpAny (model X.prog X.w) X.A (subscriptTail value slice v u) (EP X pins σ Q) X.xe s
def MtR (X:Cx) (id:String) (r:V->List V->Hp->VK->Prop):Prop :=
 ∀ (pins:List (Addr×Obj)) (s:Shared) (σ: St) (H:Hp) (x:V) (xs:List V) (v:Value) (us:List Value) (Q:VK),aL X pins σ H s->bG x v->aV xs us->r x xs H Q ->
  wpAny (model X.prog X.w) X.A (call (.builtin id) (v :: us)) (EP X pins σ Q) X.xe s
section
variable {X:Cx}{a b:Expr}{ta tb:TE}{pos:Pos}
theorem aT7 {r:R2}(hr:IxR X r) (ha:PE X a ta) (hb:PE X b tb) (hs:sU b):PE X (.Subscript a b pos) (tOp r ta tb):=by
 intro pins s σ H Q I h
 exact rh (aG9 ha hb I h fun v u s2 x y H2 I2 rx ry q=>hr a b pins s2 σ H2 x y v u Q I2 rx ry q (hs _ _))
def aR1 (K:PySem.W.Frag):R2:=fun x y H Q=>∃ p xs i v,x= .ref p/\y= .int i/\bH K H p xs/\jH xs i=some v/\Q v H
def aO9 (K:PySem.W.Frag):R2:=fun x y H Q=>∃ p xs i v,x= .ref p/\y= .int i/\bA K H p xs/\jH xs i=some v/\Q v H
def rIxS:R2:=fun x y H Q=>∃ z i c,x= .str z/\y= .int i/\z.length<=sizeLine/\jH z.cps.toList i=some c/\Q (.str ⟨#[c]⟩) H
theorem bT:IxR X (aR1 X.K):=by
 intro value slice pins s σ H x y v u Q I rx ry h hs
 obtain ⟨p,xs,i,z,rfl,rfl,hq,he,q⟩:=h
 cases rx
 obtain ⟨t,rfl⟩:=ry
 obtain ⟨its,r,pl,hz⟩:=I.list hq
 obtain ⟨j,h1,h2,h3,h4,h5⟩:=oH he
 obtain ⟨w,ew,rw'⟩:=r.get h2
 have hl:=r.length
 have hn:=jR
 have fin:EP X pins σ Q w s:=⟨z,H,I,rw',q⟩
 by_cases h0:0<=i
 ·have hj:i.toNat=j:=by
   rw [mq h0 h5] at h1
   exact ci h1
  exact item_listR pl.isList h0 (by omega) (by rw [hj];simpa using ew) fin hs
 ·have hj:(i+(its.toArray.size:Int)).toNat=j:=by
   rw [qd (by omega) h4] at h1
   rw [au, <- hl]
   exact ci h1
  exact mv (x:=w) pl.isList.typeIs slot_list_getitem.lookup
   (wpAny_getItem_list_neg (Q:=fun r s'=>r=w/\EP X pins σ Q r s') pl.isList (by omega) (by rw [au] <;> omega) (by omega) (by rw [hj];simpa using ew) ⟨rfl,fin⟩) hs
theorem aZ:IxR X (aO9 X.K):=by
 intro value slice pins s σ H x y v u Q I rx ry h hs
 obtain ⟨p,xs,i,z,rfl,rfl,hq,he,q⟩:=h
 cases rx
 obtain ⟨t,rfl⟩:=ry
 obtain ⟨its,r,pl,hz⟩:=I.tuple hq
 obtain ⟨j,h1,h2,h3,h4,h5⟩:=oH he
 obtain ⟨w,ew,rw'⟩:=r.get h2
 have hl:=r.length
 have hn:=jR
 have fin:EP X pins σ Q w s:=⟨z,H,I,rw',q⟩
 exact mv (x:=w) pl.typeIs slot_tuple_getitem.lookup
  (getItem_tuple (j:=j) (Q:=fun r s'=>r=w/\EP X pins σ Q r s') pl (by omega) (by omega) (by rw [au, <- hl];exact h1) (by simpa using ew) ⟨rfl,fin⟩) hs
theorem qK:IxR X rIxS:=by
 intro value slice pins s σ H x y v u Q I rx ry h hs
 obtain ⟨z,i,c,rfl,rfl,hz,he,q⟩:=h
 obtain ⟨t,rfl⟩:=rx
 obtain ⟨t',rfl⟩:=ry
 obtain ⟨j,h1,h2,h3,h4,h5⟩:=oH he
 have hl:z.cps.toList.length=z.length:=by simp [Str.length]
 rw [hl] at h1 h4 h5
 have hn:=jR
 exact tail_any (typeIs_str s z t) slot_str_getitem.lookup (getItem_str (c:=c) (by
  have e1:decide (i < -(2 ^ 63:Int))=false:=bo (by omega)
  have e2:decide (i ≥ 2 ^ 63)=false:=bo (by omega)
  rw [e1,e2,Bool.or_false]) (by rw [h1];simpa using h2) ⟨.str ⟨#[c]⟩,H,I.tok _,⟨_,rfl⟩,q⟩) hs
theorem rA (its:List Value) (n j:Nat) (u:Value):Obj.mapSeq (·.setIfInBounds j u) { cls:= .type "list",data:= .seq its.toArray n }={ cls:= .type "list",data:= .seq (its.set j u).toArray n }:=by
 simp [Obj.mapSeq]
theorem aL.lst {pins:List (Addr×Obj)}{σ: St}{H:Hp}{s:Shared}{p:Addr}{xs:List V}(I:aL X pins σ H s) (h:H p=some (.lst xs)) :
  ∃ (its:List Value) (n:Nat),aV xs its/\s.heap.get? p=some { cls:= .type "list",data:= .seq its.toArray n }/\xs.length<=sizeLine:=by
 obtain ⟨z,its,n,r,e⟩:=I.hok p _ h
 exact ⟨its,n,r,e,z⟩
theorem aL.lstUpd {pins:List (Addr×Obj)}{σ: St}{H:Hp}{s:Shared}{p:Addr}{xs ys:List V}{its its':List Value}{n n':Nat}{f:Obj->Obj}(I:aL X pins σ H s) (h:H p=some (.lst xs))
  (ho:s.heap.get? p=some { cls:= .type "list",data:= .seq its.toArray n }) (hf:f { cls:= .type "list",data:= .seq its.toArray n }={ cls:= .type "list",data:= .seq its'.toArray n' }) (r:aV ys its') (hz:ys.length<=sizeLine) (t:Nat) :
  aL X pins σ (aN H p (.lst ys)) { s with heap:=s.heap.update p f,toks:=t }:=by
 have e:(s.heap.update p f).get? p=some { cls:= .type "list",data:= .seq its'.toArray n' }:=by
  rw [dy f ho (by rw [hf] <;> rfl),hf]
 refine I.write (x:=p) (e:=p) (by rw [h];trivial) (.inl rfl) (fun b u hb q=>(dq _ _ (Ne.symm hb)).trans q) ⟨_,e⟩ ?_
 exact ⟨hz,its',n',r,e⟩
def rSetL:V->V->V->Hp->(Hp->Prop)->Prop:=fun o i v H Q=>∃ p xs k j,o= .ref p/\i= .int k/\H p=some (.lst xs)/\ixN xs.length k=some j/\Q (aN H p (.lst (xs.set j v)))
theorem lN:aQ6 X rSetL:=by
 intro pins s σ H o i v ov iv u Q I ro ri rv h
 obtain ⟨p,xs,k,j,rfl,rfl,hp,hj,q⟩:=h
 cases ro
 obtain ⟨t,rfl⟩:=ri
 obtain ⟨its,n,r,ho,hz⟩:=I.lst hp
 obtain ⟨h1,h2,h3,h4⟩:=sP hj
 have hl:=r.length
 have hn:=jR
 have I':aL X pins σ (aN H p (.lst (xs.set j v))) { s with heap:=s.heap.update p (Obj.mapSeq (·.setIfInBounds j u)) } :=
  I.lstUpd hp ho (rA its n j u) (r.set rv j) (by rw [List.length_set];exact hz) s.toks
 by_cases h0:0<=k
 ·have hk:k.toNat=j:=by
   rw [mq h0 h4] at h1
   exact ci h1
  exact PySem.W.ki_setAt ho h0 (by omega) (by rw [au, <- hl];exact h4) (by rw [hk];exact ⟨_,I',q⟩)
 ·have hk:(k+(its.toArray.size:Int)).toNat=j:=by
   rw [qd (by omega) h3] at h1
   rw [au, <- hl]
   exact ci h1
  exact PySem.W.ki_setBack ho (by omega) (by rw [au, <- hl];exact h3) (by omega) (by rw [hk];exact ⟨_,I',q⟩)
theorem nN (lo hi:Option Int) (n:Nat):(sliceBounds lo hi none n).1=((HT.sIx n 0 lo:Nat):Int)/\(sliceBounds lo hi none n).2.1=((HT.sIx n n hi:Nat):Int)/\(sliceBounds lo hi none n).2.2=1:=by
 refine ⟨?_,?_,rfl⟩
 ·cases lo with
  |none=>simp [sliceBounds,HT.sIx]
  |some i =>
   simp only [sliceBounds,HT.sIx,Option.getD_none,show (1:Int) > 0 by decide,if_true]
   by_cases h:i < 0
   ·simp only [h,if_true] <;> omega
   ·simp only [h,if_false] <;> omega
 ·cases hi with
  |none=>simp [sliceBounds,HT.sIx]
  |some i =>
   simp only [sliceBounds,HT.sIx,Option.getD_none,show (1:Int) > 0 by decide,if_true]
   by_cases h:i < 0
   ·simp only [h,if_true] <;> omega
   ·simp only [h,if_false] <;> omega
theorem lX (its:List Value) (lo hi:Option Int):slicePick its.toArray lo hi none=((its.drop (HT.sIx its.length 0 lo)).take (HT.sIx its.length its.length hi - HT.sIx its.length 0 lo)).toArray:=by
 obtain ⟨h1,h2,h3⟩:=nN lo hi its.toArray.size
 unfold slicePick
 rw [h1,h2,h3]
 simp only [sliceRange_one,pick_run,List.size_toArray] <;> rfl
def aX8 (K:PySem.W.Frag):V->Option Int->Option Int->Hp->VK->Prop:=fun x lo hi H Q=>∃ a xs,x= .ref a/\bH K H a xs/\∀ p,H p=none->Q (.ref p) (aN H p (.lst (oG xs lo hi)))
theorem zC:SlR X (aX8 X.K):=by
 intro pins s σ H x v vl vu lo hi sl Q I rx hs pl pu h
 obtain ⟨a,xs,rfl,hx,q⟩:=h
 cases rx
 obtain ⟨its,r,ht,hz⟩:=I.list hx
 have hlen:=r.length
 refine ⟨"list",_,slot_list_getitem.lookup,ht.isList.typeIs,?_⟩
 refine wpAny_getItem_list_slice ht.isList hs pl pu .none (by simp) ?_ (by rw [List.size_toArray] <;> omega)
 rw [lX, <- hlen]
 refine ⟨.ref s.heap.objs.size,_,I.laid (t':=s.toks) (o:= .lst (oG xs lo hi)) (fun b ob q=>af _ q) (ae _) ?_,rfl,q _ (I.hok.fresh (ae _))⟩
 exact ⟨aj (qC xs lo hi) hz,_,0,(r.drop (HT.sIx xs.length 0 lo)).take (HT.sIx xs.length xs.length hi - HT.sIx xs.length 0 lo),bn _ rfl⟩
def iH:V->Bool
 |.non=>true
 |.bl _=>true
 |.int _=>true
 |.str _=>true
 |_=>false
def yE:V->V->Bool
 |.non,.non=>true
 |.bl a,.bl b=>a == b
 |.bl a,.int b=>(if a then 1 else 0) == b
 |.int a,.bl b=>a == (if b then 1 else 0)
 |.int a,.int b=>a == b
 |.str a,.str b=>a == b
 |_,_=>false
theorem aD5 {A:Around}{s:Shared}{y x:V}{u v:Value}(ry:bG y u) (rx:bG x v) (fy:iH y=true) (fx:iH x=true):SeqAt.EqAt A s u v (yE y x):=by
 cases y with
 |non =>
  cases ry
  cases x with
  |non=>cases rx;exact SeqAt.EqAt.same _
  |bl b=>cases rx;exact SeqAt.EqAt.none_bool b
  |int b=>obtain ⟨t,rfl⟩:=rx;exact SeqAt.EqAt.none_int b t
  |str b=>obtain ⟨t,rfl⟩:=rx;exact SeqAt.EqAt.none_str b t
  |_=>exact absurd (show false=true from fx) ba
 |bl a =>
  cases ry
  cases x with
  |non=>cases rx;exact SeqAt.EqAt.bool_none a
  |bl b=>cases rx;exact SeqAt.EqAt.bool_bool a b
  |int b=>obtain ⟨t,rfl⟩:=rx;exact SeqAt.EqAt.bool_int a b t
  |str b=>obtain ⟨t,rfl⟩:=rx;exact SeqAt.EqAt.bool_str a b t
  |_=>exact absurd (show false=true from fx) ba
 |int a =>
  obtain ⟨t',rfl⟩:=ry
  cases x with
  |non=>cases rx;exact SeqAt.EqAt.int_none a t'
  |bl b=>cases rx;exact SeqAt.EqAt.int_bool a t' b
  |int b=>obtain ⟨t,rfl⟩:=rx;exact SeqAt.EqAt.int_int a t' b t
  |str b=>obtain ⟨t,rfl⟩:=rx;exact pf a t' b t
  |_=>exact absurd (show false=true from fx) ba
 |str a =>
  obtain ⟨t',rfl⟩:=ry
  cases x with
  |non=>cases rx;exact SeqAt.EqAt.str_none a t'
  |bl b=>cases rx;exact SeqAt.EqAt.str_bool a t' b
  |int b=>obtain ⟨t,rfl⟩:=rx;exact ph a t' b t
  |str b=>obtain ⟨t,rfl⟩:=rx;exact SeqAt.EqAt.str_str a t' b t
  |_=>exact absurd (show false=true from fx) ba
 |_=>exact absurd (show false=true from fy) ba
def qO (x:V) (u:Value):Bool:=match u with
 |.none=>yE .non x
 |.bool b=>yE (.bl b) x
 |.int i _=>yE (.int i) x
 |.str z _=>yE (.str z) x
 |_=>false
theorem vC {x y:V}{u:Value}(r:bG y u) (f:iH y=true):qO x u=yE y x:=by
 cases y with
 |non=>cases r;rfl
 |bl b=>cases r;rfl
 |int i=>obtain ⟨t,rfl⟩:=r;rfl
 |str z=>obtain ⟨t,rfl⟩:=r;rfl
 |_=>exact absurd (show false=true from f) ba
theorem iU {x:V}:∀ {xs:List V}{us:List Value},aV xs us->xs.all iH=true->us.any (qO x)=xs.any fun y=>yE y x
 |_,_,.nil,_=>rfl
 |y :: xs,u :: us,.cons r t,f=>by
  rw [ki,gz] at f
  rw [gl,gl,vC r f.1,iU t f.2]
theorem gS {A:Around}{s:Shared}{x:V}{v:Value}(rx:bG x v) (fx:iH x=true):∀ {xs:List V}{us:List Value},aV xs us->xs.all iH=true->∀ u∈us,SeqAt.EqAt A s u v (qO x u)
 |_,_,.nil,_=>fun u hu=>by cases hu
 |y :: xs,u :: us,.cons r t,f=>fun u' hu=>by
  rw [ki,gz] at f
  rcases bv.mp hu with rfl | hu
  ·rw [vC r f.1];exact aD5 r rx f.1 fx
  ·exact gS rx fx t f.2 u' hu
def oU (x:V) (xs:List V):Bool:=xs.any fun y=>yE y x
def rIn (K:PySem.W.Frag) (neg:Bool):R2:=fun x y H Q=>∃ p xs,y= .ref p/\(bH K H p xs\/bA K H p xs)/\iH x=true/\xs.all iH=true/\Q (.bl (if neg then !oU x xs else oU x xs)) H
theorem cW:gD X (compareOp .In) (rIn X.K false):=by
 intro pins s σ H x y v u Q I rx ry h
 obtain ⟨p,xs,rfl,hq,fx,fs,q⟩:=h
 cases ry
 rcases hq with hq | hq
 ·obtain ⟨its,r,pl,hz⟩:=I.list hq
  refine SeqAt.in_listAt (qO x) pl.isList (fun w hw=>gS rx fx r fs w (by simpa using hw)) ⟨.bl _,H,I,rfl,?_⟩
  rw [show its.toArray.any (qO x)=its.any (qO x) by simp,iU r fs]
  exact q
 ·obtain ⟨its,r,pl,hz⟩:=I.tuple hq
  refine SeqAt.in_tupleAt (qO x) pl (fun w hw=>gS rx fx r fs w (by simpa using hw)) ⟨.bl _,H,I,rfl,?_⟩
  rw [show its.toArray.any (qO x)=its.any (qO x) by simp,iU r fs]
  exact q
theorem iV:gD X (compareOp .NotIn) (rIn X.K true):=by
 intro pins s σ H x y v u Q I rx ry h
 obtain ⟨p,xs,rfl,hq,fx,fs,q⟩:=h
 cases ry
 rcases hq with hq | hq
 ·obtain ⟨its,r,pl,hz⟩:=I.list hq
  refine SeqAt.notIn_listAt (qO x) pl.isList (fun w hw=>gS rx fx r fs w (by simpa using hw)) ⟨.bl _,H,I,rfl,?_⟩
  rw [show its.toArray.any (qO x)=its.any (qO x) by simp,iU r fs]
  exact q
 ·obtain ⟨its,r,pl,hz⟩:=I.tuple hq
  refine SeqAt.notIn_tupleAt (qO x) pl (fun w hw=>gS rx fx r fs w (by simpa using hw)) ⟨.bl _,H,I,rfl,?_⟩
  rw [show its.toArray.any (qO x)=its.any (qO x) by simp,iU r fs]
  exact q
theorem cC:gL X (.builtin "len") (fun xs H Q=>∃ p ys,xs=[.ref p]/\(bH X.K H p ys\/bA X.K H p ys)/\Q (.int ys.length) H):=by
 intro pins s σ H xs us Q I r h
 obtain ⟨p,ys,rfl,hq,q⟩:=h
 obtain ⟨u,rfl,rx⟩:=mJ r
 cases rx
 have hn:=jR
 rcases hq with hq | hq
 ·obtain ⟨its,r',pl,hz⟩:=I.list hq
  have hlen:=r'.length
  exact Calls.call_len_list pl.isList (by simp only [List.size_toArray] <;> omega) ⟨.int ys.length,H,I.tok _,⟨s.toks+1,by rw [au,hlen]⟩,q⟩
 ·obtain ⟨its,r',pl,hz⟩:=I.tuple hq
  have hlen:=r'.length
  exact len_tuple pl (by simp only [List.size_toArray] <;> omega) ⟨.int ys.length,H,I.tok _,⟨s.toks+1,by rw [au,hlen]⟩,q⟩
theorem iZ:gL X (.type "list") (fun xs H Q=>∃ p ys,xs=[.ref p]/\(bH X.K H p ys\/bA X.K H p ys)/\∀ l,H l=none->Q (.ref l) (aN H l (.lst ys))):=by
 intro pins s σ H xs us Q I r h
 obtain ⟨p,ys,rfl,hq,q⟩:=h
 obtain ⟨u,rfl,rx⟩:=mJ r
 cases rx
 have fin:∀ (its:List Value),aV ys its->ys.length<=sizeLine->∀ (h':Heap) (c':Nat),(∀ b o',s.heap.get? b=some o'->h'.get? b=some o') ->
   h'.get? s.heap.objs.size=some { cls:= .type "list",dict:=none,data:= .seq its.toArray c',slots:= #[] }->EP X pins σ Q (.ref s.heap.objs.size) { s with heap:=h' }:=fun its r' hz h' c' kp e =>
  ⟨.ref s.heap.objs.size,_,I.laid (t':=s.toks) kp (ae _) (show bL X.prog X.w _ h' _ (.lst ys) from ⟨hz,its,c',r',e⟩),rfl,q _ (I.hok.fresh (ae _))⟩
 rcases hq with hq | hq
 ·obtain ⟨its,r',pl,hz⟩:=I.list hq
  have hlen:=r'.length
  obtain ⟨o,ho,hc,n,hd⟩:=pl.isList
  exact call_list_seq p (.inl rfl) ho hc hd (fun h' c' kp e=>fin its r' hz h' c' kp e) (by simp only [List.size_toArray] <;> omega)
 ·obtain ⟨its,r',pl,hz⟩:=I.tuple hq
  have hlen:=r'.length
  obtain ⟨o,ho,hc,n,hd⟩:=pl
  exact call_list_seq p (.inr rfl) ho hc hd (fun h' c' kp e=>fin its r' hz h' c' kp e) (by simp only [List.size_toArray] <;> omega)
theorem bX:gL X (.type "tuple") (fun xs H Q=>∃ p ys,xs=[.ref p]/\((bH X.K H p ys/\∀ l,H l=none->Q (.ref l) (aN H l (.tup ys)))\/(bA X.K H p ys/\Q (.ref p) H))):=by
 intro pins s σ H xs us Q I r h
 obtain ⟨p,ys,rfl,h⟩:=h
 obtain ⟨u,rfl,rx⟩:=mJ r
 cases rx
 rcases h with ⟨hq,q⟩ | ⟨hq,q⟩
 ·obtain ⟨its,r',pl,hz⟩:=I.list hq
  have hlen:=r'.length
  refine call_tuple_list pl.isList (fun h' kp=>?_) (by simp only [List.size_toArray] <;> omega)
  have I1:aL X pins σ H { s with heap:=h' }:=I.kept (t':=s.toks) kp
  have I2:aL X pins σ (aN H h'.objs.size (.tup ys)) { s with heap:=h'.push { cls:= .type "tuple",data:= .seq its.toArray } } :=
   I1.laid (t':=s.toks) (fun b o e=>af _ e) (ae _) (show bL X.prog X.w _ _ _ (.tup ys) from ⟨hz,its,r',iO.new _ _⟩)
  exact ⟨.ref h'.objs.size,_,I2,rfl,q _ (I1.hok.fresh (ae _))⟩
 ·obtain ⟨its,r',pl,hz⟩:=I.tuple hq
  exact call_tuple_same pl ⟨.ref p,H,I,rfl,q⟩
def tyV (K:PySem.W.Frag) (T:String) (x:V) (H:Hp):Prop:=match x with
 |.str _=>T="str"
 |.int _=>T="int"
 |.ref p=>(T="list"/\∃ xs,bH K H p xs)\/(T="tuple"/\∃ o,K.lookup p=some o/\o.cls= .type "tuple"/\o.dict=none) \/
   (T="dict"/\((∃ kvs,H p=some (.dK kvs))\/∃ kvs,H p=some (.dT kvs)))\/(T="set"/\∃ S n,H p=some (.set S n))
 |_=>False
theorem wE {pins:List (Addr×Obj)}{σ: St}{H:Hp}{s:Shared}{T:String}{x:V}{v:Value}(I:aL X pins σ H s) (r:bG x v) (ty:tyV X.K T x H) :
  s.TypeIs v T/\∀ a,v= .ref a->∃ ob,s.heap.get? a=some ob/\ob.dict=none:=by
 cases x with
 |str z =>
  obtain ⟨t,rfl⟩:=r
  cases (show T="str" from ty)
  exact ⟨typeIs_str s z t,fun _ e=>nomatch e⟩
 |int i =>
  obtain ⟨t,rfl⟩:=r
  cases (show T="int" from ty)
  exact ⟨rj s i t,fun _ e=>nomatch e⟩
 |ref p =>
  cases r
  rcases ty with ⟨rfl,xs,hq⟩ | ⟨rfl,o,hk,hc,hd⟩ | ⟨rfl,hk⟩ | ⟨rfl,S,n,hk⟩
  ·obtain ⟨its,_,pl,_⟩:=I.list hq
   refine ⟨pl.isList.typeIs,fun a e=>?_⟩
   cases e
   obtain ⟨o,n,e,c,hd,_⟩:=pl
   exact ⟨o,e,hd⟩
  ·refine ⟨⟨o,I.kIn p o hk,hc⟩,fun a e=>?_⟩
   cases e
   exact ⟨o,I.kIn _ o hk,hd⟩
  ·have z:∃ o,s.heap.get? p=some o/\o.ExactDict:=by
    rcases hk with ⟨kvs,hk⟩ | ⟨kvs,hk⟩
    ·obtain ⟨_,_,_,_,o,_,_,e,ex,_⟩:=I.hok p _ hk
     exact ⟨o,e,ex⟩
    ·obtain ⟨_,_,_,_,o,_,_,e,ex,_⟩:=I.hok p _ hk
     exact ⟨o,e,ex⟩
   obtain ⟨o,e,ex⟩:=z
   refine ⟨⟨o,e,ex.1⟩,fun a e2=>?_⟩
   cases e2
   exact ⟨o,e,ex.2.1⟩
  ·obtain ⟨o,_,_,_,e,ex,_⟩:=I.hok p _ hk
   refine ⟨⟨o,e,ex.1⟩,fun a e2=>?_⟩
   cases e2
   exact ⟨o,e,ex.2.1⟩
 |_=>exact False.elim ty
def aW8 (K:PySem.W.Frag) (T:String) (r:V->List V->Hp->VK->Prop) (to:TE):TE:=fun σ H Q=>to σ H fun x H1=>tyV K T x H1/\r x [] H1 Q
def tBM (K:PySem.W.Frag) (T:String) (r:V->List V->Hp->VK->Prop) (to:TE) (t:TA):TE:=fun σ H Q=>to σ H fun x H1=>tyV K T x H1/\t σ H1 fun xs H2=>r x xs H2 Q
variable {o e:Expr}{es:List Expr}{to:TE}{t:TA}{name:Str}{apos cpos:Pos}{T id:String}{r:V->List V->Hp->VK->Prop}
theorem aH7 (pa:PlainAttrs T) (slot:Slot T name id) (hty:typeOf (.builtin id)=pure (.type "method_descriptor")) (hm:MtR X id r) (ho:PE X o to)
  (hbase:autoParam (attributeBase o name X.env (eval o X.env)=eval o X.env) Rq0._auto_1) (hline:autoParam ((apos.endLine == cpos.line)=true) Rq0._auto_1):PE X (.Call (.Attribute o name apos) [] [] cpos) (aW8 X.K T r to):=by
 intro pins s σ H Q I h
 refine wpAny_Call_method0_late hbase hline (bZ (ho pins s σ H _ I h) ?_);rintro v s1 ⟨x,H1,I1,r1,ty,q1⟩
 obtain ⟨h1,h2⟩:=wE I1 r1 ty
 exact ⟨T,id,pa,slot,hty,h1,h2,mw rfl (PySem.evalArgs_none (hm pins s1 σ H1 x [] v [] Q I1 r1 .nil q1))⟩
theorem dG (pa:PlainAttrs T) (slot:Slot T name id) (hty:typeOf (.builtin id)=pure (.type "method_descriptor")) (hm:MtR X id r) (ho:PE X o to) (ha:PA X (e :: es) t)
  (hbase:autoParam (attributeBase o name X.env (eval o X.env)=eval o X.env) Rq0._auto_1)
  (hfew:autoParam (((backTo cpos (starEach (e :: es) X.env)).all (fun x=> !x.1) && (backToKw cpos (keywordEach [] X.env)).all (fun x=>x.1.isSome)
   && decide ((e :: es).length+([]:List Keyword).length+(if ([]:List Keyword).isEmpty then 0 else 1) < 30))=true) Rq0._auto_1)
  (hline:autoParam ((apos.endLine == cpos.line)=true) Rq0._auto_1) (hs:autoParam (starEach (e :: es) X.env=(false,eval e X.env) :: starEach es X.env) Rq0._auto_1) (hplain:autoParam ((backTo cpos (starEach es X.env)).any (·.1)=false) Rq0._auto_1) :
  PE X (.Call (.Attribute o name apos) (e :: es) [] cpos) (tBM X.K T r to t):=by
 intro pins s σ H Q I h
 refine wpAny_Call_method_late hbase hfew hline rfl (bZ (ho pins s σ H _ I h) ?_);rintro v s1 ⟨x,H1,I1,r1,ty,q1⟩
 obtain ⟨h1,h2⟩:=wE I1 r1 ty
 refine ⟨T,id,pa,slot,hty,h1,h2,?_⟩
 have hA:=ha cpos pins s1 σ H1 _ I1 q1
 rw [hs] at hA ⊢
 refine mw (by show (false || (backTo cpos (starEach es X.env)).any (·.1))=false;rw [hplain] <;> rfl) (Calls.evalArgs_plain ?_)
 refine bZ hA ?_;rintro us s2 ⟨vs,H2,I2,r2,q2⟩;exact hm pins s2 σ H2 x vs v us Q I2 r1 r2 q2
end
def MtM (X:Cx) (id:String) (r:V->List V->Hp->VK->Prop):Prop :=
 ∀ (pins:List (Addr×Obj)) (s:Shared) (σ: St) (H:Hp) (x:V) (xs:List V) (v:Value) (us:List Value) (Q:VK),aL X pins σ H s->bG x v->aV xs us->r x xs H Q ->
  wpAny (model X.prog X.w) X.A (call (.builtin id) (v :: us)) (EP X pins σ Q) X.xe s
theorem aV.one:∀ {x:V}{us:List Value},aV [x] us->∃ u,us=[u]/\bG x u
 |_,_,.cons r .nil=>⟨_,rfl,r⟩
theorem aV.zero:∀ {us:List Value},aV [] us->us=[]
 |_,.nil=>rfl
theorem aV.dropLast {xs:List V}{us:List Value}(h:aV xs us):aV xs.dropLast us.dropLast:=by
 induction h with
 |nil=>exact .nil
 |cons r t ih =>
  cases t with
  |nil=>exact .nil
  |cons q t'=>exact .cons r ih
theorem aV.eraseIdx:∀ {xs:List V}{us:List Value}(i:Nat),aV xs us->aV (xs.eraseIdx i) (us.eraseIdx i)
 |_,_,_,.nil=> .nil
 |_,_,0,.cons _ t=>t
 |_,_,i+1,.cons r t=> .cons r (aV.eraseIdx i t)
theorem aV.rep {xs:List V}{us:List Value}(h:aV xs us):∀ k:Nat,aV (List.replicate k xs).flatten (List.replicate k us).flatten
 |0=> .nil
 |k+1=>by
  rw [fj,fj,iz,iz]
  exact aV.append h (aV.rep h k)
theorem qH {α: Type}(l:List α):l.eraseIdx (l.length - 1)=l.dropLast:=by
 induction l with
 |nil=>rfl
 |cons a r ih =>
  cases r with
  |nil=>rfl
  |cons b r =>
   have e:(a :: b :: r).length - 1=((b :: r).length - 1)+1:=by
    rfl
   rw [e,List.eraseIdx_cons_succ,ih]
   all_goals rfl
theorem mR {α: Type}:∀ (l:List α) (i:Nat),(l.eraseIdx i).length<=l.length
 |[],_=>ae _
 |_ :: _,0=>jf _
 |_ :: r,i+1=>Nat.succ_le_succ (mR r i)
theorem nB (its:List Value):∀ (k:Nat) (acc:List Value),
  List.foldl (fun x1 x2=>x1++x2) acc.toArray (List.replicate k its.toArray)=(acc++(List.replicate k its).flatten).toArray
 |0,acc=>by simp
 |k+1,acc=>by
  have e:acc.toArray++its.toArray=(acc++its).toArray:=by simp
  have e2:(acc++its)++(List.replicate k its).flatten=acc++(List.replicate (k+1) its).flatten:=by
   rw [fj,iz,qt]
  rw [<- e2, <- nB its k (acc++its), <- e,fj,gn]
section
variable {X:Cx}{pins:List (Addr×Obj)}{σ: St}{H:Hp}{s:Shared}{l b:Addr}{xs ys zs:List V}
theorem aL.lset {its its':List Value}{n:Nat}{f:Array Value->Array Value}{t':Nat}(I:aL X pins σ H s) (hH:H l=some (.lst xs))
  (e:s.heap.get? l=some { cls:= .type "list",data:= .seq its.toArray n }) (hf:f its.toArray=its'.toArray) (hv:aV ys its') (hz:ys.length<=sizeLine) :
  aL X pins σ (aN H l (.lst ys)) { s with heap:=s.heap.update l (Obj.mapSeq f),toks:=t' }:=by
 have q:=PySem.IsL.update e f
 rw [hf] at q
 refine I.write (x:=l) (e:=l) (by rw [hH];exact trivial) (.inl rfl) (fun b' u hb hu=>(dq s.heap (Obj.mapSeq f) (Ne.symm hb)).trans hu) ⟨_,q⟩ ?_
 exact ⟨hz,its',_,hv,q⟩
theorem aL.lnew {its:List Value}{t':Nat}(I:aL X pins σ H s) (hv:aV ys its) (hz:ys.length<=sizeLine) :
  aL X pins σ (aN H s.heap.objs.size (.lst ys)) { s with heap:=s.heap.push { cls:= .type "list",data:= .seq its.toArray },toks:=t' } :=
 I.laid (fun _ _ q=>af _ q) (ae _) ⟨hz,its,0,hv,bn _ rfl⟩
theorem aL.fresh (I:aL X pins σ H s):H s.heap.objs.size=none:=I.hok.fresh (ae _)
theorem aL.lstM (I:aL X pins σ H s) (hH:H l=some (.lst xs)):xs.length<=sizeLine/\∃ (its:List Value) (n:Nat),aV xs its/\xs.length=its.length/\s.heap.get? l=some { cls:= .type "list",data:= .seq its.toArray n }:=by
 obtain ⟨z,its,n,r,e⟩:=I.hok l _ hH
 exact ⟨z,its,n,r,r.length,e⟩
theorem qB {n:Nat}(h:n<=sizeLine):Builtin.List.listTooLong n=false:=by
 unfold Builtin.List.listTooLong
 exact bo (by omega)
end
section
variable {X:Cx}
def rAppend:V->List V->Hp->VK->Prop:=fun x vs H Q=>∃ l xs y,x= .ref l/\vs=[y]/\H l=some (.lst xs)/\xs.length < sizeLine/\Q .non (aN H l (.lst (xs++[y])))
theorem cH:MtM X "list.append" rAppend:=by
 intro pins s σ H x vs v us Q I rx rv h
 obtain ⟨l,xs,y,rfl,rfl,hH,hz,q⟩:=h
 cases rx
 obtain ⟨u,rfl,ru⟩:=rv.one
 obtain ⟨z,its,n,r,hl,e⟩:=I.lstM hH
 refine jn F.slot_list_append ⟨_,e,rfl⟩ F.entry_list_append (F.args_list_append_2 _ _) (PySem.list_append l its.toArray n u (by rw [au];omega)) ⟨e,?_⟩
 refine ⟨.non,_,I.lset (its':=its++[u]) hH e (by simp) (r.append (.cons ru .nil)) ?_,rfl,q⟩
 rw [ap,List.length_singleton]
 omega
def rExtend:V->List V->Hp->VK->Prop:=fun x vs H Q=>∃ l b xs zs,x= .ref l/\vs=[.ref b]/\H l=some (.lst xs)/\H b=some (.lst zs)/\xs.length+zs.length<=sizeLine/\Q .non (aN H l (.lst (xs++zs)))
theorem eI:MtM X "list.extend" rExtend:=by
 intro pins s σ H x vs v us Q I rx rv h
 obtain ⟨l,b,xs,zs,rfl,rfl,hH,hB,hz,q⟩:=h
 cases rx
 obtain ⟨u,rfl,ru⟩:=rv.one
 cases ru
 obtain ⟨z,its,n,r,hl,e⟩:=I.lstM hH
 obtain ⟨z2,its2,n2,r2,hl2,e2⟩:=I.lstM hB
 have hsz:its.toArray.size+its2.toArray.size<=sizeLine:=by rw [au,au];omega
 have hlong:¬ (!its.toArray.isEmpty && Builtin.List.listTooLong (its.toArray.size+its2.toArray.size))=true:=by
  rw [qB hsz,Bool.and_false]
  exact ba
 refine jn F.slot_list_extend ⟨_,e,rfl⟩ F.entry_list_extend (F.args_list_extend_2 _ _)
  (AutoSeq1.list_extend_list_list_0 l its.toArray n b its2.toArray n2 hlong (by rw [au];omega) (by omega)) ⟨e,e2,?_⟩
 refine ⟨.non,_,I.lset (its':=its++its2) hH e (by simp) (r.append r2) ?_,rfl,q⟩
 rw [ap]
 omega
def rPop:V->List V->Hp->VK->Prop:=fun x vs H Q=>∃ l xs y,x= .ref l/\vs=[]/\H l=some (.lst xs)/\xs[xs.length - 1]?=some y/\Q y (aN H l (.lst xs.dropLast))
theorem aI2:MtM X "list.pop" rPop:=by
 intro pins s σ H x vs v us Q I rx rv h
 obtain ⟨l,xs,y,rfl,rfl,hH,hy,q⟩:=h
 cases rx
 have hus:=rv.zero
 subst hus
 obtain ⟨z,its,n,r,hl,e⟩:=I.lstM hH
 obtain ⟨u,hu,ru⟩:=r.get hy
 have hy':its.toArray[its.toArray.size - 1]?=some u:=by
  show its.toArray[its.length - 1]?=some u
  rw [<- nt, <- hl]
  exact hu
 refine jn F.slot_list_pop ⟨_,e,rfl⟩ re (F.args_list_pop_1 _) (MeetsSeq.list_pop_last l its.toArray n u hy' (by rw [au];omega)) ⟨e,?_⟩
 refine ⟨y,_,I.lset (its':=its.dropLast) hH e ?_ r.dropLast ?_,ru,q⟩
 ·show its.toArray.eraseIdxIfInBounds (its.toArray.size - 1)=its.dropLast.toArray
  rw [au,ji,qH]
 ·rw [List.length_dropLast]
  omega
def rPopAt:V->List V->Hp->VK->Prop:=fun x vs H Q=>∃ l xs i k y,x= .ref l/\vs=[.int i]/\H l=some (.lst xs)/\ -(2 ^ 63)<=i/\i < 2 ^ 63/\seqIndex? i xs.length=some k/\xs[k]?=some y/\Q y (aN H l (.lst (xs.eraseIdx k)))
theorem xB:MtM X "list.pop" rPopAt:=by
 intro pins s σ H x vs v us Q I rx rv h
 obtain ⟨l,xs,i,k,y,rfl,rfl,hH,h1,h2,hk,hy,q⟩:=h
 cases rx
 obtain ⟨u,rfl,ru⟩:=rv.one
 obtain ⟨t,rfl⟩:=ru
 obtain ⟨z,its,n,r,hl,e⟩:=I.lstM hH
 obtain ⟨w,hw,rw'⟩:=r.get hy
 refine jn F.slot_list_pop ⟨_,e,rfl⟩ re (F.args_list_pop_2 _ _)
  (MeetsSeq.list_pop_at l its.toArray n i t k w (fitsIndex_both h1 h2) (by rw [au, <- hl];exact hk) (by rw [<- nt];exact hw) (by rw [au];omega)) ⟨e,?_⟩
 refine ⟨y,_,I.lset (its':=its.eraseIdx k) hH e ?_ (r.eraseIdx k) ?_,rw',q⟩
 ·show its.toArray.eraseIdxIfInBounds k=(its.eraseIdx k).toArray
  rw [ji]
 ·have:=mR xs k
  omega
def rCat:R2:=fun x y H Q=>∃ l b xs zs,x= .ref l/\y= .ref b/\H l=some (.lst xs)/\H b=some (.lst zs)/\xs.length+zs.length<=sizeLine/\∀ p,H p=none->Q (.ref p) (aN H p (.lst (xs++zs)))
theorem lE:gD X (binaryOp .Add) rCat:=by
 intro pins s σ H x y v u Q I rx ry h
 obtain ⟨l,b,xs,zs,rfl,rfl,hH,hB,hz,q⟩:=h
 cases rx
 cases ry
 obtain ⟨z,its,n,r,hl,e⟩:=I.lstM hH
 obtain ⟨z2,its2,n2,r2,hl2,e2⟩:=I.lstM hB
 refine PySem.P.add_list e e2 ?_ (by rw [au,au];omega)
 have ea:its.toArray++its2.toArray=(its++its2).toArray:=by simp
 rw [ea]
 exact ⟨.ref _,_,I.lnew (t':=s.toks) (r.append r2) (by rw [ap];omega),rfl,q _ I.fresh⟩
def rRep:R2:=fun x y H Q=>∃ l k xs,x= .ref l/\y= .int k/\H l=some (.lst xs)/\ -(2 ^ 63)<=k/\k < 2 ^ 63/\xs.length * k.toNat<=sizeLine /\
 ∀ p,H p=none->Q (.ref p) (aN H p (.lst (List.replicate k.toNat xs).flatten))
theorem zY {α: Type}(xs:List α) (k:Nat):(List.replicate k xs).flatten.length=k * xs.length:=by
 induction k with
 |zero=>simp
 |succ k ih=>rw [fj,iz,ap,ih,Nat.succ_mul,Nat.add_comm]
theorem aK9:gD X (binaryOp .Mult) rRep:=by
 intro pins s σ H x y v u Q I rx ry h
 obtain ⟨l,k,xs,rfl,rfl,hH,h1,h2,hz,q⟩:=h
 cases rx
 obtain ⟨t,rfl⟩:=ry
 obtain ⟨z,its,n,r,hl,e⟩:=I.lstM hH
 have hlen:its.toArray.size * k.toNat<=sizeLine:=by rw [au, <- hl];exact hz
 have hcap:¬ its.toArray.size * k.toNat > (2 ^ 63 - 1) / 8:=by
  have:(sizeLine:Nat)<=(2 ^ 63 - 1) / 8:=by decide
  omega
 have hfit:¬ (!Builtin.List.listFitsIndex k)=true:=by
  rw [fitsIndex_both h1 h2]
  exact ba
 have hlong:¬ Builtin.List.listTooLong (its.toArray.size * k.toNat)=true:=by
  rw [qB hlen]
  exact ba
 have hnew:List.foldl (fun x1 x2=>x1++x2) #[] (List.replicate (if its.toArray.isEmpty=true then 0 else k.toNat) its.toArray)=(List.replicate k.toNat its).flatten.toArray:=by
  have f0:∀ m:Nat,List.foldl (fun x1 x2=>x1++x2) #[] (List.replicate m its.toArray)=(List.replicate m its).flatten.toArray:=fun m=>by
   have:=nB its m []
   rw [List.nil_append] at this
   exact this
  rw [f0]
  cases its with
  |nil=>simp
  |cons a r'=>rw [ar (by simp)]
 refine wpAny_binaryOp_repeat_ref (T:="list") (U:="int") (by decide) ⟨_,e,rfl⟩ (fun s'=>rj s' k t) noFill_list_mul F.fills_int_mul F.slot_int_rmul repeat_list F.slot_int_index.lookup
  (jn F.slot_int_rmul (rj s k t) F.entry_int_rmul (F.args_int_rmul_2 _ _) (int___rmul___int_list k t l its.toArray n)
   ⟨e,rfl,⟨_,e,rfl⟩,jn F.slot_list_mul ⟨_,e,rfl⟩ F.entry_list_mul (F.args_list_mul_2 _ _) (AutoListH.list___mul___list_int_3 l its.toArray n k t hfit hcap hlong) ⟨e,?_⟩⟩)
 rw [hnew]
 exact ⟨.ref _,_,I.lnew (t':=s.toks) (r.rep k.toNat) (by rw [zY,qe];exact hz),rfl,q _ I.fresh⟩
end
section
variable {prog:Program}{w:World}{A:Around}{E:Value->Shared->Prop}{s:Shared}
end
section
variable {X:Cx}
end
end L2
namespace Att
open PySem PySem.W PySem.Calls PyProof.Rows
theorem kG {P:Params}{h:Heap}:∀ (ns:List Int) (vs:List Value),WellAll P h vs (ns.map WData.int)->IntsAre vs ns:=by
 intro ns
 induction ns with
 |nil =>
  intro vs w
  rw [List.map_nil] at w
  cases w
  exact .nil
 |cons n ns ih =>
  intro vs w
  rw [List.map_cons] at w
  cases w with
  |cons a b =>
   cases a
   exact .cons _ _ (ih _ b)
theorem tU {l:OpenLaw}{n:Nat}(hn:l.most=some n) {P:Params}{h:Heap}{args:List WData}{vals:List Value}
  (hpre:l.row.toRowW.claim.pre args=true) (hwl:WellAll P h vals args) :
  ∃ a vs ns,vals=[Value.ref a]/\args=[WData.list (ns.map WData.int)]/\h.get? a=some { cls:= .type "list",data:= .seq vs.toArray }/\IntsAre vs ns/\ns.length<=n:=by
 have hsh:WShape.hasAll [] args [.list .int]=true:=(pre_splitW hpre).1
 have hc:l.pre.holds [] { args:=args }=true:=(pre_splitW hpre).2
 obtain ⟨d,r,rfl,h1,h2⟩:=hasAllW_cons hsh
 obtain rfl:=hasAllW_nil h2
 obtain ⟨xs,rfl,h3⟩:=hasW_list h1
 obtain ⟨ns,rfl⟩:=items_int h3
 have hlen:ns.length<=n:=by
  unfold OpenLaw.pre at hc
  have h4:(WTm.not (.lt (.lit (.int (n:Int))) (.len (.arg 0)))).holds [] { args:=[.list (ns.map .int)] }=true:=by
   have h4:=(holds_andW hc).1
   rw [hn] at h4
   exact h4
  have h5:=condW_of h4 (w_not (w_lt w_lit (w_len_list (w_arg rfl))))
  rw [List.length_map] at h5
  refine Nat.le_of_not_lt fun q=>?_
  have q':(n:Int) < ((ns.length:Nat):Int):=by omega
  first
   |(rw [decide_eq_true q'] at h5;exact absurd h5 (by decide))
   |(simp at h5;omega)
 cases hwl with
 |cons w1 w2 =>
  cases w2
  cases w1 with
  |list ho hall=>exact ⟨_,_,ns,rfl,rfl,ho,kG ns _ hall,hlen⟩
theorem uP (l:OpenLaw) (args:List WData):l.row.toRowW.claim.post args (.bool true) args=true :=
 postW_of (r:=l.row.toRowW) (X:=(true == true))
  (show WShape.has [] (.bool true) .bool=true by first | rfl | decide | simp [WShape.has,WShape.arms,WShape.armsAll])
  (show (WTm.eq .res (.lit (.bool true))).value [] { args:=args,res:=some (.bool true),after:=args }=some (.bool (true == true)) from w_eq_bool (w_res rfl) w_lit) rfl
theorem attach_call {l:OpenLaw}{n:Nat}{q:Program}{loose:List Str}{XP:(Str->Option Value)->Heap->Prop}{YP:World->Heap->Prop}{d:DefRec}
  (hn:l.most=some n) (hdf:d.params.defaults=[])
  (call:∀ (w:World) (s₀ s₁:Shared) (mg mb:Str->Option Value) (fa:Addr) (o:Obj) (pm cd doc:Value) (a:Addr) (vs:List Value) (ns:List Int),
   Ground q loose [] XP w s₀ mg mb s₁.heap->YP w s₁.heap ->
   s₁.heap.get? fa=some o->o.data= .func (docDef d.name d.params d.body d.scope pm cd doc)->s₁.heap.CodeRec cd d.name->mg d.name=some (.ref fa) ->
   s₁.heap.get? a=some { cls:= .type "list",data:= .seq vs.toArray }->IntsAre vs ns->ns.length<=n->s₁.gens= #[] ->
   codeAny (model l.prog w) callerA (.call (.ref fa) ⟨[.ref a],[]⟩) (fun r s'=>r= .ok (.ret (.bool true))/\OldK s₁.heap s'.heap/\s'.os=s₁.os/\AllBare s'.gens) s₁) :
  WalkO q loose XP YP l.row.toRowW d [] (fun f vs=>PySem.call f vs):=by
 intro w s₀ s₁ mg mb G Y fa o pm cd doc dV kV ho hd hcd hD hmg hg args vals as hpre hlay hrd hwl hlo
 obtain rfl:dV= .none:=Dflts.none hD hdf
 obtain rfl:kV= .none:=Dflts.noKw hD
 obtain ⟨a,vs,ns,rfl,rfl,hobj,hints,hlen⟩:=tU hn hpre hwl
 refine enter_call (codeAny_mono (call w s₀ s₁ mg mb fa o pm cd doc a vs ns G Y ho (fd_plain hd) hcd hmg hobj hints hlen hg) fun r s' hq=>?_)
 obtain ⟨rfl,h2,h3,h4⟩:=hq
 exact ⟨.inl ⟨.bool true,.bool true,[],rfl,fun _=>rfl,.bool true,uP l _,fun _=>⟨List.Pairwise.nil,fun _ hm=>(nomatch hm)⟩⟩,h2,h3,h4⟩
section
variable {prog:Program}{w:World}{A:Around}{E:Value->Shared->Prop}{s:Shared}{K:Frag}
def aY2 (h:Heap) (L d:Addr):List (Addr×Obj):=(List.range h.objs.size).filterMap fun a=>if a=L\/a=d then none else (h.get? a).map fun o=>(a,o)
end
end Att
namespace L2
open PySem PySem.Spec PyProof.Rows
theorem mX:∀ {vs:List Value}{ns:List Int},IntsAre vs ns->aV (ns.map V.int) vs
 |_,_,.nil=> .nil
 |_,_,.cons n t h=> .cons ⟨t,rfl⟩ (mX h)
def aG1 (H:Hp):Prop:=∀ b,H b=none\/∃ o xs,H b=some (.frz o (.lst xs))
theorem xS {P:Program}{w:World}{K:PySem.W.Frag}{mg mb:Str->Option Value}{CX:CXT}{k:Nat}{fa a:Addr}{fd:FuncData}{x:Str}{sp:Sp}{s₁:Shared}{vs:List Value}{ns:List Int}
  (KX:K.In s₁.heap) (hns:s₁.heap.Ns mainGlobals mg) (hb:s₁.heap.Ns builtinsNs mb) (hbb:∀ x:Str,x≠"__name__"->mb x=bootBuiltins x) (hlim:s₁.heap.NoLimit) (hg:s₁.gens= #[])
  (ha:s₁.heap.get? a=some { cls:= .type "list",data:= .seq vs.toArray }) (hi:IntsAre vs ns) (hl:ns.length<=sizeLine) (hr:cF k callerA)
  (F:∀ base:Heap,K.In base->base.Ns mainGlobals mg->fU P w K mg base CX k fa fd [x] sp) (hbind:∀ (s:Shared) (u:Value),BindsTo s fd ⟨[u],[]⟩ [(x,u)])
  (hsp:∀ H:Hp,aG1 H->bH K H a (ns.map V.int)->sp [.ref a] H (fun v _=>v= .bl true) fun _ _ _=>False)
  (hCX:∀ H e s',CX [] H s₁ (fun _ _ _=>False) e s'->False) :
  codeAny (model P w) callerA (.call (.ref fa) ⟨[.ref a],[]⟩) (fun r s'=>r= .ok (.ret (.bool true))/\OldK s₁.heap s'.heap/\s'.os=s₁.os/\AllBare s'.gens) s₁:=by
 have rv:=mX hi
 have lenV:=hi.length
 have core:∀ H:Hp,aG1 H->bH K H a (ns.map V.int)->fF P w H s₁.heap->(∀ b,H b≠none->b=a)->(H a≠none->K.lookup a=none) ->
   codeAny (model P w) callerA (.call (.ref fa) ⟨[.ref a],[]⟩) (fun r s'=>r= .ok (.ret (.bool true))/\OldK s₁.heap s'.heap/\s'.os=s₁.os/\AllBare s'.gens) s₁:=by
  intro H hO hS hok hA hK
  have base_of:∀ {b:Addr}{o:Obj},s₁.heap.get? b=some o->H b=none->(nU s₁.heap H).get? b=some o:=fun e n=>vH e n
  have noA:∀ {b:Addr}{o:Obj}{es:Array DictEntry}{ep:Nat},s₁.heap.get? b=some o->o.data= .dict es ep->H b=none:=fun {b o es ep} e d=>by
   cases q:H b with
   |none=>rfl
   |some u =>
    have e':b=a:=hA b (by rw [q];simp)
    subst e'
    rw [ha] at e;cases e
    have d':Data.seq vs.toArray _=Data.dict es ep:=d
    cases d'
  have nsK:∀ {b:Addr}{m:Str->Option Value},s₁.heap.Ns b m->(nU s₁.heap H).Ns b m:=fun {b m} ⟨o,es,ep,e,d,r⟩=>⟨o,es,ep,base_of e (noA e d),d,r⟩
  have hKb:K.In (nU s₁.heap H):=fun b o e=>base_of (KX b o e) (by
   cases q:H b with
   |none=>rfl
   |some u =>
    have e':b=a:=hA b (by rw [q];simp)
    subst e'
    rw [hK (by rw [q];simp)] at e;cases e)
  have hM:Mod K mg (nU s₁.heap H):=⟨hKb,nsK hns,⟨mb,nsK hb,hbb⟩,let ⟨mc,h1,h2⟩:=hlim;⟨mc,nsK h1,h2⟩⟩
  have e0:rN P w K mg (nU s₁.heap H) callerA [] s₁ H:=⟨rfl,hM,fun b o e=>zO e,Nat.le_of_eq (tF _ _),trivial,fun b hb=>absurd (show b∈([]:List Addr) from hb) (by simp),hok,.of_eq hg⟩
  refine ku ((F _ hKb (nsK hns)).run callerA [] s₁ H ⟨[.ref a],[]⟩ [.ref a] [.ref a] _ _ hr e0 (hbind s₁ (.ref a)) (.cons rfl .nil) (hsp H hO hS)) fun r s' h=>?_
  cases r with
  |error e=>exact (hCX H e s' h).elim
  |ok fl =>
   cases fl with
   |next=>exact False.elim h
   |brk=>exact False.elim h
   |cont=>exact False.elim h
   |ret u =>
    obtain ⟨v,H',os,bare,un,hok',r',q⟩:=h
    have q':v= .bl true:=q
    subst q'
    obtain rfl:u=Value.bool true:=r'
    refine ⟨rfl,OldK.of_keep fun b o e=>?_,os,bare⟩
    cases q:H b with
    |none=>exact un.keep b o e q (by intro z;exact absurd (show b∈([]:List Addr) from z) (by simp)) (by simp)
    |some u =>
     rcases hO b with z | ⟨ob,xs,z⟩
     ·rw [q] at z;cases z
     ·have z2:=un.frzs b ob _ z
      obtain ⟨e1,_⟩:=hok b _ z
      obtain ⟨e2,_⟩:=hok' b _ z2
      rw [e] at e1;cases e1
      exact e2
 cases hk:K.lookup a with
 |some o =>
  have e:=KX a o hk
  rw [ha] at e
  cases e
  refine core (fun _=>none) (fun _=> .inl rfl) (.inr ⟨_,vs.toArray,_,hk,rfl,rfl,rfl,by rw [au,lenV];exact hl,by simpa using rv⟩) (fun b u z=>by have z':(none:Option HO)=some u:=z;cases z') (fun b z=>absurd rfl z) fun z=>absurd rfl z
 |none =>
  refine core (fun b=>if b=a then some (.frz { cls:= .type "list",data:= .seq vs.toArray } (.lst (ns.map V.int))) else none) (fun b=>?_) (.inl (.inr ⟨{ cls:= .type "list",data:= .seq vs.toArray },bj rfl⟩)) (fun b u z=>?_) (fun b z=>?_) fun _=>hk
  ·by_cases hb:b=a
   ·exact .inr ⟨_,_,bj hb⟩
   ·exact .inl (ar hb)
  ·by_cases hb:b=a
   ·have z':=(bj hb).symm.trans z
    cases z'
    subst hb
    exact ⟨ha,by rw [ac];exact hl,vs,_,rv,ha⟩
   ·have z':=(ar hb).symm.trans z
    cases z'
  ·by_cases hb:b=a
   ·exact hb
   ·exact absurd (ar hb) z
theorem walk_of {l:PySem.W.OpenLaw}{n k:Nat}{q:Program}{loose:List Str}{XP:(Str->Option Value)->Heap->Prop}{YP:World->Heap->Prop}{d:DefRec}{K:Params->PySem.W.Frag}{CX:World->CXT}{sp:World->Sp}{x:Str}
  (hn:l.most=some n) (hn2:n<=sizeLine) (hdf:d.params.defaults=[]) (hr:cF k callerA)
  (hY:∀ (w:World) (h:Heap),YP w h->(K w.params).In h)
  (F:∀ (w:World) (mg:Str->Option Value) (fa:Addr) (h:Heap),(K w.params).In h->h.Ns mainGlobals mg->mg d.name=some (.ref fa) ->
   ∃ fd:FuncData,(∀ (s:Shared) (u:Value),BindsTo s fd ⟨[u],[]⟩ [(x,u)]) /\
    ∀ base:Heap,(K w.params).In base->base.Ns mainGlobals mg->fU l.prog w (K w.params) mg base (CX w) k fa fd [x] (sp w))
  (hsp:∀ (w:World) (H:Hp) (a:Addr) (ns:List Int),ns.length<=n->aG1 H->bH (K w.params) H a (ns.map V.int)->sp w [.ref a] H (fun v _=>v= .bl true) fun _ _ _=>False)
  (hCX:∀ (w:World) (H:Hp) (s:Shared) (e:Value) (s':Shared),CX w [] H s (fun _ _ _=>False) e s'->False) :
  PySem.W.WalkO q loose XP YP l.row.toRowW d [] (fun f vs=>PySem.call f vs):=by
 refine Att.attach_call hn hdf fun w s₀ s₁ mg mb fa o pm cd doc a vs ns G Y ho hd hcd hmg hobj hints hlen hg=>?_
 have KX:=hY w _ Y
 obtain ⟨fd,hb,hF⟩:=F w mg fa _ KX G.T.g hmg
 exact xS KX G.T.g G.T.b G.T.builtins G.T.nolimit hg hobj hints (aj hlen hn2) hr hF hb (fun H hO hS=>hsp w H a ns hlen hO hS) fun H e s'=>hCX w H s₁ e s'
def bD (s:Stmt):Arguments:=match s with
 |.FunctionDef _ a _ _ _ _ _ _ _ _=>a
 |_=>{ posonlyargs:=[],args:=[],vararg:=none,kwonlyargs:=[],kw_defaults:=[],kwarg:=none,defaults:=[] }
def aS (s:Stmt):List Stmt:=match s with
 |.FunctionDef _ _ b _ _ _ _ _ _ _=>b
 |_=>[]
def aI (s:Stmt):Scope:=match s with
 |.FunctionDef _ _ _ _ _ _ sc _ _ _=>sc
 |_=>{ kind:= .function,names:=[],isGenerator:=false,isCoroutine:=false }
abbrev qM:CXT:=fun _ _ _ _ _ _=>False
abbrev E0:XK:=fun _ _ _=>False
theorem aA8 {X:Cx}:fD qM X E0:=fun _ _ _ _ _ _ _ h=>h.elim
structure lO (K:PySem.W.Frag) (x qual:Str) (st:Stmt) (f:Addr) (fd:FuncData):Prop where
 ex:∃ (oc:Value) (od:Option Addr) (kV doc pm:Value) (an:Option Addr) (cdv ct:Value) (osl:Array (Option Value)),
  fd=PySem.W.fnOf x qual (bD st) (aS st) (aI st) .none kV doc pm an cdv ct/\K.lookup f=some ⟨oc,od,.func fd,osl⟩/\PySem.W.codeIn K cdv qual=true
 kp:PySem.W.keepIn K (.ref f)=true
section
variable {P:Program}{w:World}{K:PySem.W.Frag}{mg:Str->Option Value}{base:Heap}
theorem lO.ok {x qual:Str}{st:Stmt}{f:Addr}{fd:FuncData}{N ps:List Str}{k:Nat}{sp:Sp}(F:lO K x qual st f fd) (S:eB N ps (aI st)) (len:∀ vs H Q E,sp vs H Q E->vs.length=ps.length)
  (hbody:∀ (cdv:Value) (A:Around) (outer:List Env) (s:Shared) (H:Hp) (vs:List V) (Q:VK) (E:XK),cF k (A.deeper (envOfC qual (aI st) s.heap.objs.size f cdv))->sp vs H Q E ->
   ∃ t,kE (dP qM P w K mg base N qual (aI st) f cdv A outer s H E).nox (aS st) t/\t { nx:=fun _ H'=>Q .non H',rt:=Q } (dX N vs) H):fU P w K mg base qM (k+1) f fd ps sp:=by
 obtain ⟨oc,od,kV,doc,pm,an,cdv,ct,osl,rfl,lk,hcd⟩:=F.ex
 refine wX lk hcd S len fun A outer s H vs Q E hr hsp=>?_
 obtain ⟨t,h,q⟩:=hbody cdv A outer s H vs Q E hr hsp
 exact ⟨t,h.nox,q⟩
theorem lO.binds {x qual:Str}{st:Stmt}{f:Addr}{fd:FuncData}{ps:List Str}(F:lO K x qual st f fd)
  (h:∀ (kV doc pm:Value) (an:Option Addr) (cdv ct:Value) (us:List Value),us.length=ps.length->bindArgs (PySem.W.fnOf x qual (bD st) (aS st) (aI st) .none kV doc pm an cdv ct) ⟨us,[]⟩=pure (ps.zip us)):dO K fd ps []:=by
 obtain ⟨oc,od,kV,doc,pm,an,cdv,ct,osl,rfl,lk,hcd⟩:=F.ex
 exact .all (h kV doc pm an cdv ct)
theorem qY {x qual:Str}{st:Stmt}{f:Addr}{oc:Value}{od an:Option Addr}{osl:Array (Option Value)}{kV doc pm cdv ct:Value}(l:K.lookup f=some ⟨oc,od,.func (PySem.W.fnOf x qual (bD st) (aS st) (aI st) .none kV doc pm an cdv ct),osl⟩)
  (c:PySem.W.codeIn K cdv qual=true) (k:PySem.W.keepIn K (.ref f)=true):lO K x qual st f (PySem.W.fnOf x qual (bD st) (aS st) (aI st) .none kV doc pm an cdv ct):=⟨⟨oc,od,kV,doc,pm,an,cdv,ct,osl,rfl,l,c⟩,k⟩
end
theorem kU {A:Around}{k:Nat}(hr:cF k A):A.units+1 < cLine:=cw (Nat.add_le_add_left (by decide:1<=64) _) hr.units
theorem aU {n:Nat}(h:n<=1000):n < sizeLine:=cw h (by decide)
section
variable {X:Cx}
theorem pv (i:Nat) {x:Str}{pos:Pos}(hN:autoParam (X.N[i]?=some x) Rq0._auto_1) (hv:Vis X.env.scope x:=by first | exact ka rfl | exact nu (ka rfl) | exact nu (nu rfl)) (hd:autoParam ((x == ("__debug__": Str))=false) Rq1._auto_1)
  (hcd:autoParam ((x == ("__classdict__": Str))=false) Rq1._auto_1):PE X (.Name x pos) (aN2 i):=aG5 hN hv hd hcd
end
theorem tI {c A B:Prop} [Decidable c] (h1:c->A) (h2:¬ c->B):if c then A else B:=by
 by_cases h:c
 ·rw [bj h]
  exact h1 h
 ·rw [ar h]
  exact h2 h
def aY (H H':Hp):Prop:=∀ b o,H b=some o->H' b=some o
theorem aY.refl (H:Hp):aY H H:=fun _ _ h=>h
theorem aY.trans {H H1 H2:Hp}(a:aY H H1) (b:aY H1 H2):aY H H2:=fun c o h=>b c o (a c o h)
theorem aY.free {H H':Hp}(e:aY H H') {l:Addr}(h:H' l=Option.none):H l=Option.none:=by
 cases q:H l with
 |none=>rfl
 |some o =>
  rw [e l o q] at h
  cases h
theorem aY.seq {K:PySem.W.Frag}{H H':Hp}{a:Addr}{xs:List V}(e:aY H H') (h:bH K H a xs):bH K H' a xs:=by
 rcases h with (h | ⟨o,h⟩) | h
 ·exact .inl (.inl (e _ _ h))
 ·exact .inl (.inr ⟨o,e _ _ h⟩)
 ·exact .inr h
section
variable {κ: Type} [DecidableEq κ]
end
end L2
set_option maxHeartbeats 4000000
namespace L2
open PySem PySem.Spec PyProof.Rows
def gC (env:Env) (names:List (Str×NameKind)):List (Str×Addr) :=
 names.foldl (fun cs y=>if y.2 == NameKind.free then (y.1,(env.cells.lookup y.1).getD 0) :: cs else cs) []
theorem vL {env:Env}:∀ (names:List (Str×NameKind)) (cs:List (Str×Addr)),(∀ y∈names,y.2= .free->∃ c,env.cells.lookup y.1=some c) ->
  (forIn names cs fun (y:Str×NameKind) (r:List (Str×Addr))=>(if y.2 == NameKind.free then (do let a <- cellOf env y.1;pure (ForInStep.yield ((y.1,a) :: r))) else pure (ForInStep.yield r):Sem (ForInStep (List (Str×Addr))))) =
   pure (names.foldl (fun cs y=>if y.2 == NameKind.free then (y.1,(env.cells.lookup y.1).getD 0) :: cs else cs) cs)
 |[],cs,_=>rfl
 |(n,k) :: r,cs,h=>by
  have ih:=fun cs'=>vL (env:=env) r cs' fun y hy=>h y (aq _ hy)
  rw [io,gn]
  by_cases hk:k= .free
  ·subst hk
   obtain ⟨c,hc⟩:=h (n,.free) bg rfl
   have e:cellOf env n=pure c:=by unfold cellOf;rw [hc]
   simp only [beq_self_eq_true,if_true,e,pure_bind,hc,Option.getD_some]
   exact ih _
  ·have hb:(k == NameKind.free)=false:=by simpa using hk
   simp only [hb,Bool.false_eq_true,if_false,pure_bind]
   exact ih _
theorem iQ {scope:Scope}{env:Env}(h:∀ y∈scope.names,y.2= .free->∃ c,env.cells.lookup y.1=some c):closureFor scope env=pure (gC env scope.names):=by
 unfold closureFor
 have e:=vL (env:=env) scope.names [] h
 simp only [] at e ⊢
 refine Eq.trans ?_ (ee (fun m:Sem (List (Str×Addr))=>m >>= fun cs=>pure cs) e)
 rfl
theorem qP {env:Env}{x:Str}{c:Addr}:∀ (names:List (Str×NameKind)) (cs:List (Str×Addr)),(∀ y∈names,y.2= .free->∃ c,env.cells.lookup y.1=some c) ->
  (names.foldl (fun cs y=>if y.2 == NameKind.free then (y.1,(env.cells.lookup y.1).getD 0) :: cs else cs) cs).lookup x=some c->cs.lookup x=some c\/env.cells.lookup x=some c
 |[],_,_,e=> .inl e
 |(n,k) :: r,cs,h,e=>by
  rw [gn] at e
  have ih:=qP r _ (fun y hy=>h y (aq _ hy)) e
  rcases ih with q | q
  ·by_cases hk:k= .free
   ·subst hk
    obtain ⟨c',hc⟩:=h (n,.free) bg rfl
    simp only [beq_self_eq_true,if_true,hc,Option.getD_some,List.lookup_cons] at q
    cases hx:x == n with
    |true =>
     rw [hx] at q
     have:x=n:=by simpa using hx
     subst this
     simp only [Option.some.injEq] at q
     subst q
     exact .inr hc
    |false =>
     rw [hx] at q
     exact .inl q
   ·have hb:(k == NameKind.free)=false:=by simpa using hk
    simp only [hb,Bool.false_eq_true,if_false] at q
    exact .inl q
  ·exact .inr q
theorem lL {env:Env}{x:Str}:∀ (names:List (Str×NameKind)) (cs:List (Str×Addr)),((x,NameKind.free)∈names\/∃ c,cs.lookup x=some c) ->
  ∃ c,(names.foldl (fun cs y=>if y.2 == NameKind.free then (y.1,(env.cells.lookup y.1).getD 0) :: cs else cs) cs).lookup x=some c
 |[],_,e=>by rcases e with e | e;exact absurd e (by simp);exact e
 |(n,k) :: r,cs,e=>by
  rw [gn]
  refine lL r _ ?_
  rcases e with e | ⟨c,e⟩
  ·rcases bv.mp e with z | z
   ·cases z
    right
    simp only [beq_self_eq_true,if_true,List.lookup_cons]
    exact ⟨_,rfl⟩
   ·exact .inl z
  ·right
   by_cases hk:k= .free
   ·subst hk
    simp only [beq_self_eq_true,if_true,List.lookup_cons]
    cases hx:x == n with
    |true=>exact ⟨_,rfl⟩
    |false=>exact ⟨c,e⟩
   ·have hb:(k == NameKind.free)=false:=by simpa using hk
    simp only [hb,Bool.false_eq_true,if_false]
    exact ⟨c,e⟩
theorem jC {env:Env}{x:Str}:∀ {names:List (Str×NameKind)},(∀ y∈names,y.2≠ .cell) ->
  ((names.map fun (n,k)=>if (k == NameKind.free && env.scope.kind == .function && env.kindOf n == some .cell) then (n,NameKind.cell) else (n,k)).lookup x=some .cell \/
   (names.map fun (n,k)=>if (k == NameKind.free && env.scope.kind == .function && env.kindOf n == some .cell) then (n,NameKind.cell) else (n,k)).lookup x=some .free)->(x,NameKind.free)∈names
 |[],_,h=>by simp at h
 |(n,k) :: r,hc,h=>by
  have ih:= @jC env x r fun y hy=>hc y (aq _ hy)
  have hk:=hc (n,k) bg
  simp only [List.map_cons] at h
  by_cases cc:(k == NameKind.free && env.scope.kind == .function && env.kindOf n == some .cell)=true
  ·rw [bj cc] at h
   have kf:k= .free:=by
    simp only [Bool.and_eq_true,beq_iff_eq] at cc
    exact cc.1.1
   subst kf
   simp only [List.lookup_cons] at h
   cases hx:x == n with
   |true =>
    have:x=n:=by simpa using hx
    subst this
    exact bg
   |false=>rw [hx] at h;exact aq _ (ih h)
  ·rw [ar cc] at h
   simp only [List.lookup_cons] at h
   cases hx:x == n with
   |true =>
    rw [hx] at h
    have:x=n:=by simpa using hx
    subst this
    rcases h with h | h
    ·simp only [Option.some.injEq] at h
     exact absurd h hk
    ·simp only [Option.some.injEq] at h
     subst h
     exact bg
   |false=>rw [hx] at h;exact aq _ (ih h)
abbrev uZ (ifs:List Expr) (env:Env):Sem Bool:=forIn ifs true fun c r =>
 if r=true then do
  let ok <- isTrue c env (eval c env)
  pure (ForInStep.yield ok)
 else pure (ForInStep.yield r)
def qQ (X:Cx) (ifs:List Expr) (t:TT):Prop :=
 ∀ (pins:List (Addr×Obj)) (s:Shared) (σ: St) (H:Hp) (Q:Bool->Hp->Prop),aL X pins σ H s->t σ H Q ->
  wpAny (model X.prog X.w) X.A (uZ ifs X.env) (TP X pins σ Q) X.xe s
def tYes:TT:=fun _ H Q=>Q true H
theorem dL {X:Cx}:qQ X [] tYes:=fun _ _ _ H _ I h=>wpAny_tests_nil ⟨H,I,h⟩
theorem nL {X:Cx}{c:Expr}{t:TT}(h:PT X c t):qQ X [c] t:=fun pins s σ H Q I q=>wpAny_tests_one (h pins s σ H Q I q)
abbrev qJ:Value->Shared->Prop:=fun _ _=>False
theorem mM {prog:Program}{w:World}{A:Around}{R:Result->Shared->Prop}{s0:Shared}{elt target iter:Expr}{ifs:List Expr}{scope:Scope}{pos:Pos}{it acc:Value}{env:Env}(W:Nat->Shared->Prop)
  (one:∀ k t,W k t->wpAny (model prog w) A (pyNext it) (fun r t1=>match r with
   |none=>R (.ok .next) t1
   |some v=>wpAny (model prog w) A (letOwnedTupleGo target it v) (fun _ t2=>wpAny (model prog w) A (assign target env v) (fun _ t3=>wpAny (model prog w) A (uZ ifs env) (fun ok t4 =>
     if ok=true then wpAny (model prog w) A (eval elt env) (fun x t5=>wpAny (model prog w) A (call (.builtin "list.append") [acc,x]) (fun _ t6=>∃ j,j < k/\W j t6) qJ t5) qJ t4
     else ∃ j,j < k/\W j t4) qJ t3) qJ t2) qJ t1) qJ t)
  (k0:Nat) (h0:W k0 s0):codeAny (model prog w) A (.compLoop (.ListComp elt [⟨target,iter,ifs,0⟩] scope pos) 0 it acc env) R s0:=by
 refine codeAny_loop rfl W (fun k t hW=>?_) k0 h0
 refine wpAny_noted (m:=compTurn (.ListComp elt [⟨target,iter,ifs,0⟩] scope pos) 0 it acc env) ?_
 have no:∀ {P:Prop}{e:Value}{t:Shared},qJ e t->P:=fun z=>z.elim
 rw [compTurn_list]
 refine aa (ic (aa (bi (one k t hW) (fun r t1 q1=>?_) fun _ _=>no)))
 match r with
 |none=>exact am q1
 |some v =>
  refine aa (bi q1 (fun _ t2 q2=>aa (bi q2 (fun _ t3 q3=>aa (bi q3 (fun ok t4 q4=>?_) fun _ _=>no)) fun _ _=>no)) fun _ _=>no)
  match ok with
  |false=>exact am ⟨rfl,q4⟩
  |true =>
   rw [bj rfl] at q4
   refine aa (aa (bi q4 (fun x t5 q5=>aa (bi q5 (fun _ t6 q6=>?_) fun _ _=>no)) fun _ _=>no))
   exact am (am ⟨rfl,q6⟩)
def jO (ix:List (Option Nat)) (σ: St):St:=ix.map fun o=>o.bind fun j=>σ[j]?.join
theorem qA {ix:List (Option Nat)}{σ: St}{i:Nat}{v:V}(h:(jO ix σ)[i]?=some (some v)):∃ j,ix[i]?=some (some j)/\σ[j]?=some (some v):=by
 unfold jO at h
 rw [fe] at h
 cases e:ix[i]? with
 |none=>rw [e] at h;cases h
 |some o =>
  rw [e] at h
  cases o with
  |none=>cases h
  |some j =>
   have h:some (σ[j]?.join)=some (some v):=h
   refine ⟨j,rfl,?_⟩
   cases q:σ[j]? with
   |none=>rw [q] at h;cases h
   |some z=>rw [q] at h;cases h;rfl
def nF (N:List Str) (sc scope:Scope) (N':List Str) (ix:List (Option Nat)):Bool :=
 ix.length == N'.length && (ix.zip N').all (fun p=>match p.1 with | none=>true | some j=>N[j]? == some p.2 && scope.names.lookup p.2 == some NameKind.free) &&
 scope.names.all (fun y=>y.2 != NameKind.cell && (y.2 != NameKind.free || sc.names.lookup y.1 == some NameKind.cell || sc.names.lookup y.1 == some NameKind.free) && (y.2 != NameKind.local || scope.names.lookup y.1 == some NameKind.local)) &&
 scope.kind == ScopeKind.function
structure eP (N:List Str) (sc scope:Scope) (N':List Str) (ix:List (Option Nat)):Prop where
 len:ix.length=N'.length
 at_:∀ (i j:Nat) (x:Str),ix[i]?=some (some j)->N'[i]?=some x->N[j]?=some x/\scope.names.lookup x=some .free
 nocell:∀ y∈scope.names,y.2≠ .cell
 free:∀ y∈scope.names,y.2= .free->sc.names.lookup y.1=some .cell\/sc.names.lookup y.1=some .free
 loc:∀ y∈scope.names,y.2= .local->scope.names.lookup y.1=some .local
 kind:scope.kind= .function
theorem eP.of {N:List Str}{sc scope:Scope}{N':List Str}{ix:List (Option Nat)}(h:nF N sc scope N' ix=true):eP N sc scope N' ix:=by
 unfold nF at h
 simp only [Bool.and_eq_true,beq_iff_eq,List.all_eq_true] at h
 obtain ⟨⟨⟨h1,h2⟩,h3⟩,h4⟩:=h
 refine ⟨h1,fun i j x a b=>?_,fun y hy e=>?_,fun y hy e=>?_,fun y hy e=>?_,h4⟩
 ·have hm:(some j,x)∈ix.zip N':=ay (i:=i) (by rw [kq];exact ⟨a,b⟩)
  have q:=h2 _ hm
  simp only [Bool.and_eq_true,beq_iff_eq] at q
  exact q
 ·have q:=h3 y hy
  simp only [Bool.and_eq_true,bne_iff_ne,ne_eq] at q
  exact q.1.1 e
 ·have q:=(h3 y hy).1.2
  rw [e] at q
  simpa using q
 ·have q:=(h3 y hy).2
  rw [e] at q
  simpa using q
def bM (X:Cx) (N':List Str) (scope:Scope) (C:Addr) (s₂:Shared) (H₂:Hp) (fp:List Addr):Cx where
 prog:=X.prog
 w:=X.w
 K:=X.K
 mg:=X.mg
 base:=X.base
 A:=X.A
 N:=N'
 s₀:=s₂
 H₀:=H₂
 env:=compEnvC scope (gC X.env scope.names) C X.env
 outer:=X.stack
 stack:=X.stack
 ex:=fp
 fn:=fun _=>false
 calm:=X.calm
 pn:=[]
 xe:=fun _ _=>False
section
variable {X:Cx}{N':List Str}{ix:List (Option Nat)}{scope:Scope}{pins:List (Addr×Obj)}{σ: St}{H₂:Hp}{s₂:Shared}{fp:List Addr}{C:Addr}
theorem eP.cells (S:eP X.N X.env.scope scope N' ix) (I:aL X pins σ H₂ s₂):∀ y∈scope.names,y.2= .free->∃ c,X.env.cells.lookup y.1=some c:=fun y hy e=>I.ok.has y.1 (S.free y hy e)
theorem eP.get (S:eP X.N X.env.scope scope N' ix) (I:aL X pins σ H₂ s₂) {x:Str}{c:Addr}(h:(gC X.env scope.names).lookup x=some c):X.env.cells.lookup x=some c:=by
 rcases qP scope.names [] (S.cells I) h with q | q
 ·exact absurd q (by simp)
 ·exact q
theorem uB (S:eP X.N X.env.scope scope N' ix) (I:aL X pins σ H₂ s₂) (hf:∀ b∈fp,gB X pins H₂ b) (hC:s₂.heap.objs.size<=C) (hfC:∀ b∈fp,b < s₂.heap.objs.size):(bM X N' scope C s₂ H₂ fp).Ok where
 mod:=I.ok.mod
 kind:=S.kind
 glob:=I.ok.glob
 blt:=I.ok.blt
 above:=hC
 inj:=fun x y c a b=>I.ok.inj x y c (S.get I a) (S.get I b)
 has:=fun x h=>lL scope.names [] (.inl (jC S.nocell h))
 cab:=fun x c h=>by cases h
 hd:=I.ok.hd
 frames:=I.ok.frames
 stk:= .inl rfl
 exf:=fun b hb=>⟨av (ai (hfC b hb) hC),fun x c e=>(hf b hb).2.2.2.2.1 x c (S.get I e)⟩
 bs:=I.bs
 bsz:=aj I.ok.bsz I.sz
 noex:=fun b o e hb=>by
  rcases (hf b hb).2.2.2.1 with z | z
  ·exact I.ok.noex b o e z
  ·exact absurd (ai (al e) (aj I.ok.bsz z)) (di _)
 exfs:=fun b hb hm=>by
  rcases bv.mp (I.stkSub b hm) with z | z
  ·exact (hf b hb).2.1 z
  ·exact (hf b hb).2.2.1 z
 funs:=I.stack
 frf:=I.stkFree
theorem rF (S:eP X.N X.env.scope scope N' ix) (I:aL X pins σ H₂ s₂) (hf:∀ b∈fp,gB X pins H₂ b) (hfC:∀ b∈fp,b < s₂.heap.objs.size) {D:Addr}{h₁:Heap}{tk:Nat}{m:Str->Option Value}{ob:Obj}
  (hC:s₂.heap.objs.size<=C) (hD:s₂.heap.objs.size<=D) (hDC:D≠C) (old:∀ b o,s₂.heap.get? b=some o->h₁.get? b=some o) (hn:h₁.Ns C m) (hob:h₁.get? D=some ob) (hd:∀ v,ob.data≠ .cell v) :
  aL (bM X N' scope C s₂ H₂ fp) [(D,ob)] (jO ix σ) H₂ { s₂ with heap:=h₁,toks:=tk }:=by
 have fr:∀ a,s₂.heap.objs.size<=a->H₂ a=none:=fun a ha=>I.hok.fresh ha
 have cOf:∀ x c,(gC X.env scope.names).lookup x=some c->X.env.cells.lookup x=some c:=fun x c e=>S.get I e
 refine ⟨uB S I hf hC hfC,rfl,I.bare,Un.kept old,⟨m,hn,fun i x v e1 e2 e3=>?_⟩,fun x c e=>?_,fr C hC,fun x c e=>I.freeC x c (cOf x c e),fun p hp=>?_,I.hok.kept old,?_⟩
 ·obtain ⟨j,q1,q2⟩:=qA e2
  obtain ⟨n1,n2⟩:=S.at_ i j x q1 e1
  have hm:(x,NameKind.free)∈scope.names:=du n2
  have hv:Vis X.env.scope x:=by
   rcases S.free _ hm rfl with z | z
   ·exact .inr (.inl z)
   ·exact .inr (.inr z)
  obtain ⟨m0,_,hl⟩:=I.loc
  obtain ⟨u,r,l⟩:=hl j x v n1 q2 hv
  refine ⟨u,r,?_⟩
  have hne:¬ X.env.kindOf x=some .local:=fun z=>by
   have z:X.env.scope.names.lookup x=some .local:=z
   rcases S.free _ hm rfl with y | y
   ·rw [y] at z;cases z
   ·rw [y] at z;cases z
  rcases l with ⟨k,_⟩ | ⟨k,c,e,z⟩
  ·exact absurd k hne
  ·obtain ⟨c',hc'⟩:=lL (env:=X.env) (x:=x) scope.names [] (.inl hm)
   have hc'':=cOf x c' hc'
   rw [e] at hc''
   cases hc''
   have kk:(bM X N' scope C s₂ H₂ fp).env.kindOf x=some .cell\/(bM X N' scope C s₂ H₂ fp).env.kindOf x=some .free:=by
    rcases e3 with y | y | y
    ·exfalso
     have:∀ {names:List (Str×NameKind)},names.lookup x=some .free ->
      (names.map fun (n,k)=>if (k == NameKind.free && X.env.scope.kind == .function && X.env.kindOf n == some .cell) then (n,NameKind.cell) else (n,k)).lookup x=some .local->False:=by
      intro names
      induction names with
      |nil=>intro a;simp at a
      |cons p r ih =>
       obtain ⟨n,k⟩:=p
       intro a b
       simp only [List.map_cons] at b
       simp only [List.lookup_cons] at a
       cases hx:x == n with
       |true =>
        rw [hx] at a
        simp only [Option.some.injEq] at a
        subst a
        split at b
        ·simp [List.lookup_cons,hx] at b
        ·simp [List.lookup_cons,hx] at b
       |false =>
        rw [hx] at a
        split at b
        ·simp only [List.lookup_cons,hx] at b;exact ih a b
        ·simp only [List.lookup_cons,hx] at b;exact ih a b
     exact this n2 y
    ·exact .inl y
    ·exact .inr y
   obtain ⟨oc,ho,hod⟩:=z
   exact .inr ⟨kk,c,hc',oc,old _ _ ho,hod⟩
 ·obtain ⟨v,o,ho,hod⟩:=I.cell x c (cOf x c e)
  exact ⟨v,o,old _ _ ho,hod⟩
 ·have hp:p∈[(D,ob)]:=hp
  have e:p=(D,ob):=by simpa using hp
  subst e
  refine ⟨hob,fr D hD,hDC,fun hb=>?_,hd⟩
  have hb:D∈fE X.stack:=hb
  rcases bv.mp (I.stkSub D hb) with z | z
  ·exact absurd I.lt (by rw [<- z];exact jo.mpr hD)
  ·exact I.nofs hD z
 ·show (jO ix σ).length=N'.length
  unfold jO
  rw [ac,S.len]
theorem rE (I:aL X pins σ H₂ s₂) (hf:∀ b∈fp,gB X pins H₂ b) {pins':List (Addr×Obj)}{σ':St}{H':Hp}{s':Shared}{D:Addr}{ys:List V}{its:List Value}(hC:s₂.heap.objs.size<=C) (hD:s₂.heap.objs.size<=D)
  (J:aL (bM X N' scope C s₂ H₂ fp) pins' σ' H' s') (hn:H' D=none) (hl:s'.heap.PlainList D its.toArray) (r:aV ys its) (hz:ys.length<=sizeLine):aL X pins σ (aN H' D (.lst ys)) s':=by
 have sb:Un (fE X.stack) fp H₂ H' s₂.heap s'.heap:=J.base
 have nD:∀ b u,H' b=some u->b≠D:=fun b u e=>aK e hn
 refine I.call' (ch:=fp) J.os ⟨sb.keep,sb.slot,fun b o e n hx=>?_,sb.there,fun b xs e=>?_,fun b o u e=>?_,fun b ps e=>?_⟩ (fun b u e=>?_) J.bare (fun b hb=>?_)
 ·rw [aH (av (ai (al e) hD))]
  exact sb.free b o e n hx
 ·have q:=sb.tups b xs e
  rw [aH (nD b _ q)];exact q
 ·have q:=sb.frzs b o u e
  rw [aH (nD b _ q)];exact q
 ·obtain ⟨more,q⟩:=sb.tbls b ps e
  exact ⟨more,by rw [aH (nD b _ q)];exact q⟩
 ·by_cases hb:b=D
  ·subst hb
   rw [aD] at e
   cases e
   obtain ⟨n,hg⟩:=hl
   exact ⟨hz,its,n,r,hg⟩
  ·rw [aH hb] at e
   exact (J.hok b u e).stay (fun c v _ q=>q) (fun c q=>by rw [aH (nD c _ q)];exact q) fun c xs q=>by rw [aH (nD c _ q)];exact q
 ·obtain ⟨_,f1,_,f3,f4,f5⟩:=hf b hb
  exact ⟨f3,f1,f4,f5⟩
end
def lI (J:It) (g:TG) (tc:TT) (te:TE) (Kf:List V->Hp->Prop) (σ0:St) (H1:Hp):Prop :=
 ∃ W:Nat->Nat->List V->St->Hp->Prop,(∃ m,W 0 m [] σ0 H1)/\∀ i m ys σ' H',W i m ys σ' H'->ys.length < sizeLine /\
  ((J.stop i H'/\Kf ys H')\/(J.go i H'/\∃ N:List V->St->Hp->Prop,(∀ ys' σ2 H2,N ys' σ2 H2->∃ m',m' < m/\W (i+1) m' ys' σ2 H2)/\∀ x H'',J.yld i H' x H''->g x σ' H'' fun σ2 H2=>tc σ2 H2 fun b H3 =>
   if b=true then te σ2 H3 fun y H4=>N (ys++[y]) σ2 H4 else N ys σ2 H3))
def wT (wi:TI) (ix:List (Option Nat)) (g:TG) (tc:TT) (te:TE):TE:=fun σ H Q =>
 wi σ H fun J H1=>lI J g tc te (fun ys H'=>∀ l,H' l=none->Q (.ref l) (aN H' l (.lst ys))) (jO ix σ) H1
section
variable {X:Cx}{tg elt iter:Expr}{ifs:List Expr}{scope:Scope}{pos:Pos}{N':List Str}{ix:List (Option Nat)}{wi:TI}{g:TG}{tc:TT}{te:TE}
def sF (X:Cx) (pins:List (Addr×Obj)) (σ: St) (Kf:List V->Hp->Prop) (acc:Value) (C:Addr) (s':Shared):Prop :=
 ∃ D H' ys,acc= .ref D/\H' D=none/\aL X pins σ (aN H' D (.lst ys)) s'/\(∃ m,s'.heap.Ns C m)/\H' C=none/\D≠C/\C≠X.env.locals/\X.s₀.heap.objs.size<=C/\(∀ x c,X.env.cells.lookup x=some c->c≠C)/\(∀ p∈X.pn++pins,p.1≠C)/\Kf ys H'
theorem mW {pins:List (Addr×Obj)}{s₂:Shared}{σ: St}{H₂:Hp}{it:Addr}{fp:List Addr}{tn:Nat->Heap->Prop}{J:It}{Kf:List V->Hp->Prop}{RR:Value->Addr->Result->Shared->Prop}{E:Value->Shared->Prop}
  (S:eP X.N X.env.scope scope N' ix) (hc:X.calm=true)
  (hg:∀ C s₂ H₂ fp,PG (bM X N' scope C s₂ H₂ fp) tg g) (ht:∀ C s₂ H₂ fp,qQ (bM X N' scope C s₂ H₂ fp) ifs tc) (he:∀ C s₂ H₂ fp,PE (bM X N' scope C s₂ H₂ fp) elt te)
  (I2:aL X pins σ H₂ s₂) (T:rB X.prog X.w X.K tg J fp it tn) (st2:tn 0 s₂.heap) (f2:∀ b∈fp,gB X pins H₂ b) (w:lI J g tc te Kf (jO ix σ) H₂)
  (hR:∀ acc C s',sF X pins σ Kf acc C s'->RR acc C (.ok .next) s') :
  wpAny (model X.prog X.w) X.A (newList []) (fun acc s₃=>wpAny (model X.prog X.w) X.A (newFunctionEnv scope X.env.globals (gC X.env scope.names) [] X.env.qual none .none (some X.env)) (fun cenv s₄ =>
   codeAny (model X.prog X.w) X.A (.compStart (.ListComp elt [⟨tg,iter,ifs,0⟩] scope pos) 0 (.ref it) acc { cenv with scope:=relabel scope X.env }) (RR acc cenv.locals) s₄) E s₃) E s₂:=by
 obtain ⟨W,⟨m0,w0⟩,turn⟩:=w
 refine gt (wpAny_newFunctionEnv S.nocell (by intro y hy;simp at hy) (fun h₁ nsN sbN=>?_) S.kind)
 dsimp only at nsN sbN ⊢
 generalize eH:s₂.heap.push { cls:= .type "list",dict:=none,data:= .seq ([]:List Value).toArray }=G2 at nsN sbN ⊢
 have sizeC:G2.objs.size=s₂.heap.objs.size+1:=by rw [<- eH,iu]
 have neDC:s₂.heap.objs.size≠G2.objs.size:=by rw [sizeC];exact av (dh _)
 have leC:s₂.heap.objs.size<=G2.objs.size:=by rw [sizeC];exact jf _
 have older:∀ b,b < s₂.heap.objs.size->b≠G2.objs.size/\b≠s₂.heap.objs.size:=fun b hb=>⟨by rw [sizeC];exact av (ja hb),av hb⟩
 have keepOld:∀ b o,s₂.heap.get? b=some o->h₁.get? b=some o:=fun b o e=>sbN.extBut b o (older b (al e)).1 (af _ (eH ▸ af _ e))
 have accNew:h₁.PlainList s₂.heap.objs.size #[]:=⟨_,sbN.extBut _ _ neDC (af _ (eH ▸ bn _ rfl))⟩
 generalize eC:G2.objs.size=C at *
 generalize eD:s₂.heap.objs.size=D at *
 have hfC:∀ b∈fp,b < s₂.heap.objs.size:=fun b hb=>by
  obtain ⟨o,e,_⟩:=T.obj 0 _ st2 b hb
  exact al e
 have hfD:∀ b∈fp,b≠D:=fun b hb=>by have:=hfC b hb;rw [eD] at this;exact av this
 have hfC':∀ b∈fp,b≠C:=fun b hb=>by have:=hfC b hb;rw [eD] at this;exact av (ai this leC)
 have geD:s₂.heap.objs.size<=D:=by rw [eD];exact ae _
 have geC:s₂.heap.objs.size<=C:=by rw [eD];exact leC
 obtain ⟨nn,hob⟩:=id accNew
 have J1:aL (bM X N' scope C s₂ H₂ fp) [] (jO ix σ) H₂ { s₂ with heap:=h₁,toks:=s₂.toks+([]:List (Str×Value)).length } :=
  (rF S I2 f2 hfC geC geD neDC keepOld nsN hob (fun v z=>by cases z)).pins_of (fun p hp=>absurd hp (by simp))
 have nfsD:D∉fE X.stack:=fun hb=>by
  rcases bv.mp (I2.stkSub D hb) with z | z
  ·exact absurd I2.lt (by rw [<- z];exact jo.mpr geD)
  ·exact I2.nofs geD z
 have cOf:∀ x c,(gC X.env scope.names).lookup x=some c->c≠D/\c≠C:=fun x c e=>by
  obtain ⟨v,z⟩:=I2.cell x c (S.get I2 e)
  have:=z.lt
  rw [eD] at this
  exact ⟨av this,av (ai this leC)⟩
 have fpk:∀ {pl:List (Addr×Obj)}{H':Hp},(∀ b∈fp,H' b=none)->(∀ p∈pl,p.1∉fp)->∀ b∈fp,gB (bM X N' scope C s₂ H₂ fp) pl H' b:=fun {pl H'} hn hp b hb =>
  ⟨hn b hb,hfC' b hb,fun z=>by
    rcases bv.mp (I2.stkSub b z) with q | q
    ·exact (f2 b hb).2.1 q
    ·exact (f2 b hb).2.2.1 q,
   .inl hb,fun x c e=>(f2 b hb).2.2.2.2.1 x c (S.get I2 e),fun p hp' z=>hp p (by simpa [bM] using hp') (by rw [z];exact hb)⟩
 have dpk:∀ {H':Hp},H' D=none->∀ b∈[D],gB (bM X N' scope C s₂ H₂ fp) [] H' b:=fun {H'} hn b hb=>by
  have e:b=D:=by simpa using hb
  subst e
  exact ⟨hn,neDC,nfsD,.inr geD,fun x c e=>(cOf x c e).1,fun p hp=>absurd hp (by simp [bM])⟩
 have loop:codeAny (model X.prog X.w) X.A (.compLoop (.ListComp elt [⟨tg,iter,ifs,0⟩] scope pos) 0 (.ref it) (.ref D) (compEnvC scope (gC X.env scope.names) C X.env)) (RR (.ref D) C) { s₂ with heap:=h₁,toks:=s₂.toks+([]:List (Str×Value)).length }:=by
  refine mM (fun n s'=>∃ i ys σ' H' its,aL (bM X N' scope C s₂ H₂ fp) [] σ' H' s'/\tn i s'.heap/\(∀ b∈fp,H' b=none)/\H' D=none/\s'.heap.PlainList D its.toArray/\aV ys its/\W i n ys σ' H') ?_ m0
   ⟨0,[],_,H₂,[],J1,T.keep _ _ _ st2 fun b _ o e=>keepOld b o e,fun b hb=>(f2 b hb).1,I2.hok.fresh geD,accNew,.nil,w0⟩
  rintro n s3 ⟨i,ys,σ3,H3,its,I3,st3,fr3,dn3,pl3,rv3,w3⟩
  obtain ⟨nn3,hob3⟩:=id pl3
  have oD:∀ b∈[D],∃ o,s3.heap.get? b=some o/\∀ v,o.data≠ .cell v:=fun b hb=>by
   have e:b=D:=by simpa using hb
   subst e
   exact ⟨_,hob3,fun v z=>by cases z⟩
  have I3':aL (bM X N' scope C s₂ H₂ fp) (cI [D] s3.heap) σ3 H3 s3:=by
   have:=I3.pinned (dpk dn3) oD
   simpa using this
  have pD:(D,({ cls:= .type "list",data:= .seq its.toArray nn3 }:Obj))∈cI [D] s3.heap:=cK (by simp) hob3
  have npD:∀ p∈cI [D] s3.heap,p.1∉fp:=fun p hp z=>by
   have e:p.1=D:=by simpa using (jN hp).1
   exact hfD _ z e
  obtain ⟨hys,tt⟩:=turn i n ys σ3 H3 w3
  rcases tt with ⟨stop,qn⟩ | ⟨go,N,hN,step⟩
  ·refine bi (T.done (bM X N' scope C s₂ H₂ fp) rfl rfl rfl hc i (cI [D] s3.heap) s3 σ3 H3 (fun _ _=>False) I3' (fpk fr3 npD) st3 stop) (fun r s4 ⟨hr,I4⟩=>?_) fun _ _ z=>z
   subst hr
   have g4:=(I4.pin _ (bc _ pD)).1
   refine hR _ _ _ ⟨D,H3,ys,rfl,dn3,rE I2 f2 geC geD I4 dn3 ⟨nn3,g4⟩ rv3 (cg hys),?_,?_,neDC,?_,?_,?_,?_,qn⟩
   ·obtain ⟨m,hm,_⟩:=I4.loc
    exact ⟨m,hm⟩
   ·exact I4.free
   ·exact fu (ai I2.lt geC)
   ·exact aj I2.sz geC
   ·intro x c e z
    obtain ⟨v,q⟩:=I2.cell x c e
    exact absurd (ai q.lt geC) (by rw [z];exact di _)
   ·intro p hp z
    exact absurd (ai (al (I2.pin p hp).1) geC) (by rw [z];exact di _)
  ·refine bi (T.item (bM X N' scope C s₂ H₂ fp) rfl rfl rfl hc i (cI [D] s3.heap) s3 σ3 H3 (fun _ _=>False) I3' (fpk fr3 npD) st3 go) (fun r s4 ⟨u,hr,h4⟩=>?_) fun _ _ z=>z
   subst hr
   refine bi h4 (?_) fun _ _ z=>z;rintro _ s5 ⟨x,H5,I5,r5,y5,st5,fr5⟩
   have I5':=I5.pinned (fpk fr5 npD) (T.obj _ _ st5)
   refine bi (hg C s₂ H₂ fp _ s5 σ3 H5 x u _ I5' r5 (step x H5 y5)) (?_) fun _ _ z=>z;rintro _ s6 ⟨σ6,H6,I6,q6⟩
   refine bi (ht C s₂ H₂ fp _ s6 σ6 H6 _ I6 q6) (?_) fun _ _ z=>z;rintro b s7 ⟨H7,I7,q7⟩
   have fin:∀ {s8:Shared}{σ8:St}{H8:Hp},aL (bM X N' scope C s₂ H₂ fp) (cI [D] s3.heap++cI fp s5.heap) σ8 H8 s8->s8.heap.get? D=some { cls:= .type "list",data:= .seq its.toArray nn3 }/\H8 D=none /\
     tn (i+1) s8.heap/\∀ b∈fp,H8 b=none:=fun {s8 σ8 H8} I8=>by
    have q:=I8.pin _ (bc _ (er _ pD))
    refine ⟨q.1,q.2.1,T.keep _ _ _ st5 fun b hb o e=>(I8.pin (b,o) (bc _ (bc _ (cK hb e)))).1,fun b hb=>?_⟩
    obtain ⟨o,e,d⟩:=T.obj _ _ st5 b hb
    exact (I8.pin (b,o) (bc _ (bc _ (cK hb e)))).2.1
   cases b with
   |false =>
    obtain ⟨m',hm,w7⟩:=hN _ _ _ q7
    obtain ⟨a1,a2,a3,a4⟩:=fin I7
    exact ⟨m',hm,i+1,ys,σ6,H7,its,I7.pins_of fun p hp=>absurd hp (by simp),a3,a4,a2,⟨nn3,a1⟩,rv3,w7⟩
   |true =>
    refine bi (he C s₂ H₂ fp _ s7 σ6 H7 _ I7 q7) (?_) fun _ _ z=>z;rintro v s8 ⟨y,H8,I8,r8,n8⟩
    obtain ⟨m',hm,w8⟩:=hN _ _ _ n8
    obtain ⟨a1,a2,a3,a4⟩:=fin I8
    have hsz:its.toArray.size<=sizeLine:=by
     have:=rv3.length
     rw [au]
     omega
    refine md (hsz:=hsz) ⟨nn3,a1⟩ fun h9 hl9 hs9=>?_
    have I9:aL (bM X N' scope C s₂ H₂ fp) [] σ6 H8 { s8 with heap:=h9 } :=
     (I8.pins_of (pins':=[]) fun p hp=>absurd hp (by simp)).turned (t':=s8.toks) (fun b o hb e=>(hs9.2 b hb).trans e) a2 neDC (.inr geD) (fun x c e=>(cOf x c e).1) fun p hp=>absurd hp (by simp [bM])
    refine ⟨m',hm,i+1,ys++[y],σ6,H8,its++[v],I9,T.keep _ _ _ a3 fun b hb o e=>(hs9.2 b (hfD b hb)).trans e,a4,a2,?_,rv3.append (.cons r8 .nil),w8⟩
    have e:(its++[v]).toArray=its.toArray.push v:=by simp
    rw [e];exact hl9
 exact nc loop (T.self _ 0 _ _ _ (T.keep _ _ _ st2 fun b _ o e=>keepOld b o e) loop)
theorem cJ (N':List Str) (ix:List (Option Nat)) (hi:PI X tg iter wi) (hg:∀ C s₂ H₂ fp,PG (bM X N' scope C s₂ H₂ fp) tg g) (ht:∀ C s₂ H₂ fp,qQ (bM X N' scope C s₂ H₂ fp) ifs tc)
  (he:∀ C s₂ H₂ fp,PE (bM X N' scope C s₂ H₂ fp) elt te) (S:autoParam (nF X.N X.env.scope scope N' ix=true) Rq0._auto_1) (hc:autoParam (X.calm=true) Rq0._auto_1) (hs:autoParam (∀ x,foldedSetIterable iter X.env x=pure x) Rq3._auto_1) :
  PE X (.ListComp elt [⟨tg,iter,ifs,0⟩] scope pos) (wT wi ix g tc te):=by
 intro pins s σ H Q I h
 have S:=eP.of S
 rw [eval_ListComp]
 refine iq (use:=none) (cl:=gC X.env scope.names) rfl hs (iQ fun y hy e=>I.ok.has y.1 (S.free y hy e)) S.kind S.loc (bZ (hi pins s σ H _ I h) fun xv s₁ h₁=>bZ h₁ fun itv s₂ h₂=>?_)
 obtain ⟨it,fp,tn,J,H₂,rfl,I2,T,st2,f2,w⟩:=h₂
 refine mW (RR:=fun acc C=>compPost (model X.prog X.w) X.A X.xe none (EP X pins σ Q) acc C) S hc hg ht he I2 T st2 f2 w fun acc C s' ce=>?_
 obtain ⟨D,H',ys,rfl,dn,J',hm,cn,dc,c1,c2,c3,c4,kf⟩:=ce
 obtain ⟨m,hm⟩:=hm
 refine ⟨m,hm,fun h' hs'=>⟨.ref D,_,J'.turned (t':=s'.toks) (fun b o hb e=>(hs'.2 b hb).trans e) (by rw [aH dc.symm];exact cn) c1 (.inr c2) c3 c4,rfl,kf D dn⟩⟩
theorem sO (N':List Str) (ix:List (Option Nat)) {i:Nat}{x:Str}{pos' spos:Pos}(hN:X.N.Nodup) (hxi:X.N[i]?=some x) (hx:zG X.env.scope x) (hi:PI X tg iter wi) (hg:∀ C s₂ H₂ fp,PG (bM X N' scope C s₂ H₂ fp) tg g) (ht:∀ C s₂ H₂ fp,qQ (bM X N' scope C s₂ H₂ fp) ifs tc)
  (he:∀ C s₂ H₂ fp,PE (bM X N' scope C s₂ H₂ fp) elt te) (S:autoParam (nF X.N X.env.scope scope N' ix=true) Rq0._auto_1) (hc:autoParam (X.calm=true) Rq0._auto_1) (hs:autoParam (∀ x,foldedSetIterable iter X.env x=pure x) Rq3._auto_1)
  (hsw:autoParam (swapsWith (.ListComp elt [⟨tg,iter,ifs,0⟩] scope pos) (some (.Name x pos')) spos.line X.env=pure true) Rq0._auto_1) (hf:autoParam (X.fn x=true\/X.env.scope.names.lookup x=some .local) Rq2._auto_1) :
  PS X (.Assign [.Name x pos'] (.ListComp elt [⟨tg,iter,ifs,0⟩] scope pos) spos) (vB (wT wi ix g tc te) (mB i)):=by
 intro pins s σ H D I h
 have S:=eP.of S
 rw [exec_Assign_Name_used _ _ _ _ hsw]
 refine aa (ic (aa ?_))
 show wpAny _ X.A (do let _ <- comprehension (.ListComp elt [⟨tg,iter,ifs,0⟩] scope pos) scope X.env _ (newList []) false (eval iter X.env) (some (assign (.Name x pos') X.env))) _ _ s
 refine aa (bi (iq (use:=some (assign (.Name x pos') X.env)) (cl:=gC X.env scope.names) (Q:=fun _ s'=>SP X pins D .next s') rfl hs (iQ fun y hy e=>I.ok.has y.1 (S.free y hy e)) S.kind S.loc
  (bZ (hi pins s σ H _ I h) fun xv s₁ h₁=>bZ h₁ fun itv s₂ h₂=>?_)) (fun _ s' hq=>am (am hq)) fun _ _ e=>e)
 obtain ⟨it,fp,tn,J,H₂,rfl,I2,T,st2,f2,w⟩:=h₂
 refine mW (RR:=fun acc C=>compPost (model X.prog X.w) X.A X.xe (some (assign (.Name x pos') X.env)) (fun _ s'=>SP X pins D .next s') acc C) S hc hg ht he I2 T st2 f2 w fun acc C s' ce=>?_
 obtain ⟨D',H',ys,rfl,dn,J',hm,cn,dc,c1,c2,c3,c4,kf⟩:=ce
 obtain ⟨m,hm⟩:=hm
 show wpAny _ X.A (assign (.Name x pos') X.env (.ref D')) _ _ _
 refine qj (mO (v:= .ref D') J' hN hxi hx rfl (fun s2 J2 hsb=>?_) hf)
 obtain ⟨a,hsb,ha⟩:=hsb
 have hCa:C≠a:=by
  rcases ha with z | z
  ·rw [z];exact c1
  ·exact (c3 x a z).symm
 refine ⟨m,hm.sameBut hsb hCa,fun h' hs'=>?_⟩
 exact ⟨_,_,J2.turned (t':=s2.toks) (fun b o hb e=>(hs'.2 b hb).trans e) (by rw [aH dc.symm];exact cn) c1 (.inr c2) c3 c4,kf D' dn⟩
theorem fO {K:PySem.W.Frag}{a:Addr}{xs:List V}{Kf:List V->Hp->Prop}{σ0:St}{H1:Hp}(Pv:Nat->List V->St->Hp->Prop) (hz:xs.length < sizeLine) (h0:Pv 0 [] σ0 H1) (hb:∀ i ys σ H,Pv i ys σ H->ys.length<=i) (hl:∀ i ys σ H,i<=xs.length->Pv i ys σ H->bH K H a xs)
  (hs:∀ i x ys σ H,xs[i]?=some x->Pv i ys σ H->g x σ H fun σ2 H2=>tc σ2 H2 fun b H3=>if b=true then te σ2 H3 fun y H4=>Pv (i+1) (ys++[y]) σ2 H4 else Pv (i+1) ys σ2 H3) (hd:∀ ys σ H,Pv xs.length ys σ H->Kf ys H):lI (uW K a) g tc te Kf σ0 H1:=by
 refine ⟨fun i m ys σ H=>m=xs.length - i/\i<=xs.length/\Pv i ys σ H,⟨xs.length,by simp,bh _,h0⟩,?_⟩
 rintro i m ys σ H ⟨rfl,hi,p⟩
 have q:=hl i ys σ H hi p
 refine ⟨cw (hb _ _ _ _ p) (cw hi hz),?_⟩
 by_cases hlt:i < xs.length
 ·refine .inr ⟨⟨xs,xs[i],q,by simp [hlt]⟩,Pv (i+1),fun ys' σ' H' p'=>⟨xs.length - (i+1),fi hlt (dh i),rfl,hlt,p'⟩,fun x H' y=>?_⟩
  obtain ⟨e,y⟩:=y
  subst e
  exact hs i x ys σ _ (y xs q) p
 ·have e:i=xs.length:=by omega
  subst e
  exact .inl ⟨⟨xs,q,ae _⟩,hd ys σ H p⟩
theorem lP {K:PySem.W.Frag}{a:Addr}{xs:List V}{Kf:List V->Hp->Prop}{σ0:St}{H1:Hp}(Pv:Nat->List V->St->Hp->Prop) (hz:xs.length < sizeLine) (h0:Pv 0 [] σ0 H1) (hb:∀ i ys σ H,Pv i ys σ H->ys.length<=i) (hl:∀ i ys σ H,i<=xs.length->Pv i ys σ H->bA K H a xs)
  (hs:∀ i x ys σ H,xs[i]?=some x->Pv i ys σ H->g x σ H fun σ2 H2=>tc σ2 H2 fun b H3=>if b=true then te σ2 H3 fun y H4=>Pv (i+1) (ys++[y]) σ2 H4 else Pv (i+1) ys σ2 H3) (hd:∀ ys σ H,Pv xs.length ys σ H->Kf ys H):lI (uV K a) g tc te Kf σ0 H1:=by
 refine ⟨fun i m ys σ H=>m=xs.length - i/\i<=xs.length/\Pv i ys σ H,⟨xs.length,by simp,bh _,h0⟩,?_⟩
 rintro i m ys σ H ⟨rfl,hi,p⟩
 have q:=hl i ys σ H hi p
 refine ⟨cw (hb _ _ _ _ p) (cw hi hz),?_⟩
 by_cases hlt:i < xs.length
 ·refine .inr ⟨⟨xs,xs[i],q,by simp [hlt]⟩,Pv (i+1),fun ys' σ' H' p'=>⟨xs.length - (i+1),fi hlt (dh i),rfl,hlt,p'⟩,fun x H' y=>?_⟩
  obtain ⟨e,y⟩:=y
  subst e
  exact hs i x ys σ _ (y xs q) p
 ·have e:i=xs.length:=by omega
  subst e
  exact .inl ⟨⟨xs,q,ae _⟩,hd ys σ H p⟩
theorem cV {lo:Int}{n:Nat}{Kf:List V->Hp->Prop}{σ0:St}{H1:Hp}(Pv:Nat->List V->St->Hp->Prop) (hz:n < sizeLine) (h0:Pv 0 [] σ0 H1) (hb:∀ i ys σ H,Pv i ys σ H->ys.length<=i)
  (hs:∀ i ys σ H,i < n->Pv i ys σ H->g (.int (lo+i)) σ H fun σ2 H2=>tc σ2 H2 fun b H3=>if b=true then te σ2 H3 fun y H4=>Pv (i+1) (ys++[y]) σ2 H4 else Pv (i+1) ys σ2 H3) (hd:∀ ys σ H,Pv n ys σ H->Kf ys H):lI (sD lo n) g tc te Kf σ0 H1:=by
 refine ⟨fun i m ys σ H=>m=n - i/\i<=n/\Pv i ys σ H,⟨n,by simp,bh _,h0⟩,?_⟩
 rintro i m ys σ H ⟨rfl,hi,p⟩
 refine ⟨cw (hb _ _ _ _ p) (cw hi hz),?_⟩
 by_cases hlt:i < n
 ·refine .inr ⟨hlt,Pv (i+1),fun ys' σ' H' p'=>⟨n - (i+1),fi hlt (dh i),rfl,hlt,p'⟩,fun x H' y=>?_⟩
  obtain ⟨e,y⟩:=y
  subst e y
  exact hs i ys σ _ hlt p
 ·have e:i=n:=by omega
  subst e
  exact .inl ⟨ae _,hd ys σ H p⟩
end
section
variable {prog:Program}{w:World}{A:Around}{E:Value->Shared->Prop}{Q:Value->Shared->Prop}{s:Shared}{it p:Addr}{items:Array Value}
end
def aN7 (i j:Int):Prop:=0 < j/\j < 2 ^ 250
theorem gJ {X:Cx}:gD X (binaryOp .FloorDiv) (rI aN7 fun i j=> .int (i / j)):=opI fun i j _ _ _ _ _ hc q=>by
 obtain ⟨h0,h1⟩:=hc
 refine floordiv_int (by omega) ?_ (.inl (lj ?_))
 ·rw [kj i (by omega)];exact q
 ·have h2:j.natAbs < 2 ^ 250:=by
   have e:((j.natAbs:Nat):Int)=j:=ol (by omega)
   have:((j.natAbs:Nat):Int) < ((2 ^ 250:Nat):Int):=by rw [e];exact_mod_cast h1
   exact Int.ofNat_lt.mp this
  have h3:j.natAbs≠0:=by omega
  have h4:j.natAbs.log2 < 250:=(Nat.log2_lt h3).mpr h2
  exact ai h4 (by decide)
def Out (d l:Addr) (H H':Hp):Prop:=∀ b o,H b=some o->b≠d->b≠l->H' b=some o
theorem Out.refl {d l:Addr}(H:Hp):Out d l H H:=fun _ _ e _ _=>e
theorem Out.trans {d l:Addr}{H H1 H2:Hp}(a:Out d l H H1) (b:Out d l H1 H2):Out d l H H2:=fun c o e h1 h2=>b c o (a c o e h1 h2) h1 h2
theorem Out.of {d l:Addr}{H H':Hp}(s:aY H H'):Out d l H H':=fun c o e _ _=>s c o e
theorem Out.upd_d {d l:Addr}{H:Hp}{o:HO}:Out d l H (aN H d o):=fun b u e h1 _=>by rw [aH h1];exact e
theorem Out.upd_l {d l:Addr}{H:Hp}{o:HO}:Out d l H (aN H l o):=fun b u e _ h1=>by rw [aH h1];exact e
theorem aB {H:Hp}{p:Addr}(h:H p=none) (o:HO):aY H (aN H p o):=fun b u q=>by rw [aH (aK q h)];exact q
theorem eV {ns:List Int}{i:Nat}{y:V}(h:(ns.map V.int)[i]?=some y):∃ z,y=V.int z/\ns[i]?=some z:=by
 rw [fe] at h
 cases e:ns[i]? with
 |none=>rw [e] at h;cases h
 |some z=>rw [e] at h;exact ⟨z,(ci h).symm,rfl⟩
mutual
def kJ (K:PySem.W.Frag) (H:Hp):PyData->V->Prop
 |.none,v=>v= .non
 |.bool b,v=>v= .bl b
 |.int i,v=>v= .int i
 |.str x,v=>v= .str x
 |.tuple ds,v=>∃ a vs,v= .ref a/\bA K H a vs/\lW K H ds vs
 |.list ds,v=>∃ a vs,v= .ref a/\bH K H a vs/\lW K H ds vs
 |.dict _,_=>False
def lW (K:PySem.W.Frag) (H:Hp):List PyData->List V->Prop
 |[],vs=>vs=[]
 |d :: ds,vs=>∃ v r,vs=v :: r/\kJ K H d v/\lW K H ds r
end
section
variable {X:Cx}{pins:List (Addr×Obj)}{σ: St}{H:Hp}{s:Shared}
mutual
theorem kJ.reads (I:aL X pins σ H s):∀ (d:PyData) (v:V) (u:Value),kJ X.K H d v->bG v u->∃ as,Reads s.heap u d as
 |.none,v,u,h,r=>by
  have h:v= .non:=h
  subst h;cases r;exact ⟨_,.none⟩
 |.bool b,v,u,h,r=>by
  have h:v= .bl b:=h
  subst h;cases r;exact ⟨_,.bool b⟩
 |.int i,v,u,h,r=>by
  have h:v= .int i:=h
  subst h;obtain ⟨t,rfl⟩:=r;exact ⟨_,.int i t⟩
 |.str x,v,u,h,r=>by
  have h:v= .str x:=h
  subst h;obtain ⟨t,rfl⟩:=r;exact ⟨_,.str x t⟩
 |.tuple ds,v,u,h,r=>by
  obtain ⟨a,vs,rfl,hs,hl⟩:=h
  cases r
  obtain ⟨its,rv,⟨o,ho,hc,n,hd⟩,_⟩:=I.tuple hs
  obtain ⟨as,ra⟩:=lW.reads I ds vs its hl rv
  exact ⟨_,.tuple ho hc hd (by simpa using ra)⟩
 |.list ds,v,u,h,r=>by
  obtain ⟨a,vs,rfl,hs,hl⟩:=h
  cases r
  obtain ⟨its,rv,pl,_⟩:=I.list hs
  obtain ⟨o,ho,hc,n,hd⟩:=pl.isList
  obtain ⟨as,ra⟩:=lW.reads I ds vs its hl rv
  exact ⟨_,.list ho hc hd (by simpa using ra)⟩
 |.dict _,v,u,h,r=>h.elim
theorem lW.reads (I:aL X pins σ H s):∀ (ds:List PyData) (vs:List V) (us:List Value),lW X.K H ds vs->aV vs us->∃ as,ReadsAll s.heap us ds as
 |[],vs,us,h,r=>by
  have h:vs=[]:=h
  subst h;cases r;exact ⟨_,.nil⟩
 |d :: ds,vs,us,h,r=>by
  obtain ⟨v,t,rfl,hd,ht⟩:=h
  cases r with
  |cons r1 r2 =>
   obtain ⟨as,ra⟩:=kJ.reads I d v _ hd r1
   obtain ⟨bs,rb⟩:=lW.reads I ds t _ ht r2
   exact ⟨_,.cons ra rb⟩
end
end
section
variable {X:Cx}
def aP3 (K:PySem.W.Frag) (neg:Bool):R2:=fun x y H Q=>∃ d e,kJ K H d x/\kJ K H e y/\SeqAt.shaped d=true/\SeqAt.shaped e=true/\SeqAt.noMix d e=true/\Q (.bl (if neg then !Spec.same d e else Spec.same d e)) H
theorem qW {k:Nat}(hr:cF k X.A):gD X (compareOp .Eq) (aP3 X.K false):=by
 intro pins s σ H x y v u Q I rx ry h
 obtain ⟨d,e,hd,he,sd,se,mx,q⟩:=h
 obtain ⟨as,ra⟩:=kJ.reads I d x v hd rx
 obtain ⟨bs,rb⟩:=kJ.reads I e y u he ry
 exact eq_dataH_same ra rb sd se hr.units mx ⟨.bl _,H,I,rfl,q⟩
theorem xH {k:Nat}(hr:cF k X.A):gD X (compareOp .NotEq) (aP3 X.K true):=by
 intro pins s σ H x y v u Q I rx ry h
 obtain ⟨d,e,hd,he,sd,se,mx,q⟩:=h
 obtain ⟨as,ra⟩:=kJ.reads I d x v hd rx
 obtain ⟨bs,rb⟩:=kJ.reads I e y u he ry
 exact ne_dataH_same ra rb sd se hr.units mx ⟨.bl _,H,I,rfl,q⟩
theorem eE {K:PySem.W.Frag}{H:Hp}:∀ ns:List Int,lW K H (ns.map PyData.int) (ns.map V.int)
 |[]=>rfl
 |n :: r=>⟨_,_,rfl,rfl,eE r⟩
theorem lJ:∀ ns:List Int,PyData.canLayAll0 (ns.map PyData.int)=true
 |[]=>rfl
 |_ :: r=>by simp [PyData.canLayAll0,PyData.canLay0,lJ r]
theorem iR:∀ ns:List Int,PyData.depthAll (ns.map PyData.int)=0
 |[]=>rfl
 |_ :: r=>by simp [PyData.depthAll,PyData.depth,iR r]
theorem eW (ns:List Int):SeqAt.shaped (.tuple (ns.map PyData.int))=true:=by
 simp [SeqAt.shaped,PyData.canLay0,PyData.depth,lJ,iR]
theorem fR:∀ ns ms:List Int,SeqAt.noMixAll (ns.map PyData.int) (ms.map PyData.int)=true
 |[],[]=>rfl
 |[],_ :: _=>rfl
 |_ :: _,[]=>rfl
 |_ :: r,_ :: t=>by simp [SeqAt.noMixAll,SeqAt.noMix,fR r t]
theorem jX:∀ ns ms:List Int,Spec.sameAll (ns.map PyData.int) (ms.map PyData.int)=decide (ns=ms)
 |[],[]=>by simp [Spec.sameAll]
 |[],_ :: _=>by simp [Spec.sameAll]
 |_ :: _,[]=>by simp [Spec.sameAll]
 |a :: r,b :: t=>by
  simp only [List.map_cons,Spec.sameAll,Spec.same,jX r t]
  by_cases h:a=b <;> by_cases h':r=t <;> simp [h,h']
def aM2 (K:PySem.W.Frag) (neg:Bool):R2:=fun x y H Q=>∃ (p q:Addr) (ns ms:List Int),x= .ref p/\y= .ref q/\bA K H p (ns.map V.int)/\bA K H q (ms.map V.int)/\Q (.bl (if neg then !decide (ns=ms) else decide (ns=ms))) H
theorem vV {k:Nat}(hr:cF k X.A):gD X (compareOp .Eq) (aM2 X.K false):=by
 intro pins s σ H x y v u Q I rx ry h
 obtain ⟨p,q,ns,ms,ex,ey,h1,h2,hq⟩:=h
 refine qW hr pins s σ H x y v u Q I rx ry ⟨.tuple (ns.map .int),.tuple (ms.map .int),⟨p,_,ex,h1,eE ns⟩,⟨q,_,ey,h2,eE ms⟩,eW ns,eW ms,fR ns ms,?_⟩
 rw [show Spec.same (.tuple (ns.map .int)) (.tuple (ms.map .int))=decide (ns=ms) from jX ns ms]
 exact hq
theorem aH2 {k:Nat}(hr:cF k X.A):gD X (compareOp .NotEq) (aM2 X.K true):=by
 intro pins s σ H x y v u Q I rx ry h
 obtain ⟨p,q,ns,ms,ex,ey,h1,h2,hq⟩:=h
 refine xH hr pins s σ H x y v u Q I rx ry ⟨.tuple (ns.map .int),.tuple (ms.map .int),⟨p,_,ex,h1,eE ns⟩,⟨q,_,ey,h2,eE ms⟩,eW ns,eW ms,fR ns ms,?_⟩
 rw [show Spec.same (.tuple (ns.map .int)) (.tuple (ms.map .int))=decide (ns=ms) from jX ns ms]
 exact hq
theorem dU:gL X (.builtin "isinstance") (fun xs H Q=>∃ x n t b,xs=[x,.ty n]/\jU X.K H x t/\PySem.W.kitOne X.K t (.type n)=some b/\Q (.bl b) H):=by
 intro pins s σ H xs us Q I r h
 obtain ⟨x,n,t,b,rfl,ty,e,q⟩:=h
 obtain ⟨u,w',rfl,ru,rw'⟩:=vE r
 cases rw'
 exact tO I ru ty e fun tk=>⟨.bl b,H,I.tok tk,rfl,q⟩
end
section
variable {X:Cx}(K:PySem.W.Frag)
theorem aW3 (hK:autoParam (X.K=K) Rq0._auto_1):IxR X (aR1 K):=by subst hK;exact bT
theorem oY (hK:autoParam (X.K=K) Rq0._auto_1):IxR X (aO9 K):=by subst hK;exact aZ
theorem inK (hK:autoParam (X.K=K) Rq0._auto_1):gD X (compareOp .In) (rIn K false):=by subst hK;exact cW
theorem aY3 (hK:autoParam (X.K=K) Rq0._auto_1):gD X (compareOp .NotIn) (rIn K true):=by subst hK;exact iV
end
theorem bP {c A B:Prop} [Decidable c] (hc:c) (h:A):if c then A else B:=by rw [bj hc];exact h
theorem bC {c A B:Prop} [Decidable c] (hc:¬ c) (h:B):if c then A else B:=by rw [ar hc];exact h
theorem yF {α: Type}(v:α) (r:List α):jH (v :: r) 0=some v:=by
 have h:(0:Int) < ((v :: r).length:Int):=by simp
 unfold jH ixN
 rw [bj (by decide),bj h]
 rfl
def iM (lo:Int) (n:Nat):List Int:=(List.range n).map fun (i:Nat)=>lo+(i:Int)
theorem aI1 (lo:Int) (n:Nat):(iM lo n).length=n:=by simp [iM]
theorem aB0 (lo:Int) (n:Nat):iM lo (n+1)=iM lo n++[lo+n]:=by simp [iM,List.range_succ]
theorem aI8 {lo z:Int}{n:Nat}:z∈iM lo n↔lo<=z/\z < lo+n:=by
 unfold iM
 rw [fk]
 constructor
 ·rintro ⟨i,hi,rfl⟩
  have:=jw.mp hi
  omega
 ·rintro ⟨h1,h2⟩
  exact ⟨(z - lo).toNat,jw.mpr (by omega),by omega⟩
section
variable {X:Cx}
theorem aY1 {es:List Expr}{k:Nat}{t:TGs}{n:Nat}{pos:Pos}(K:PySem.W.Frag) (hc:X.calm=true) (h:PGs X es t) (hK:autoParam (X.K=K) Rq0._auto_1)
  (hn:autoParam ((assignEach es X.env).length=n) Rq0._auto_1) (hst:autoParam ((assignEach es X.env).findIdx? (·.1)=none) Rq0._auto_1):PG X (.Tuple es k pos) (aU2 K n t):=by subst hK;exact nR hc h hn hst
end
section
variable {X:Cx}{pins:List (Addr×Obj)}{σ: St}{H:Hp}{s:Shared}{h':Heap}
end
section
variable {prog:Program}{w:World}{A:Around}{E:Value->Shared->Prop}{s:Shared}
end
section
variable {prog:Program}{w:World}{A:Around}{E:Value->Shared->Prop}{s:Shared}
end
section
variable {g:TG}{tc:TT}{te:TE}
end
section
variable {X:Cx}{tg:Expr}
theorem lC:∀ {ys:List Str}{us:List Value},aV (ys.map V.str) us->StrsAre us ys
 |[],_,r=>by
  cases r
  exact .nil
 |y :: ys,_,r=>by
  cases r with
  |cons r1 r2 =>
   obtain ⟨t,rfl⟩:=r1
   exact .cons y t (lC r2)
def aT2 (K:PySem.W.Frag):V->List V->Hp->VK->Prop:=fun x vs H Q=>∃ (sep:Str) (p:Addr) (ys:List Str),x= .str sep/\vs=[.ref p]/\bH K H p (ys.map V.str)/\(ys.map (·.length)).sum+ys.length * sep.length<=16777216/\Q (.str (Txt.join sep ys)) H
theorem zD:MtR X "str.join" (aT2 X.K):=by
 intro pins s σ H x xs v us Q I rx rs h
 obtain ⟨sep,p,ys,rfl,rfl,hq,hz,q⟩:=h
 obtain ⟨t,rfl⟩:=rx
 obtain ⟨u,rfl,ru⟩:=rs.one
 cases ru
 obtain ⟨its,rv,pl,_⟩:=I.list hq
 exact join_list pl.isList (by simpa using lC rv) hz fun t' k=>⟨.str _,H,I.tok k,⟨_,rfl⟩,q⟩
end
section
variable {X:Cx}
theorem qL:gD X (binaryOp .Mult) (fun x y H Q=>∃ (z:Str) (n:Int),x= .str z/\y= .int n/\z.length=1/\(n=0\/n=1)/\Q (.str (if n=0 then Str.empty else z)) H):=by
 intro pins s σ H x y v u Q I rx ry h
 obtain ⟨z,n,rfl,rfl,hz,hn,q⟩:=h
 obtain ⟨t,rfl⟩:=rx
 obtain ⟨t',rfl⟩:=ry
 rcases hn with rfl | rfl
 ·exact PySem.P.mul_str_none (by decide) (by decide) ⟨.str _,H,I.tok _,⟨_,rfl⟩,q⟩
 ·refine PySem.P.mul_str (by decide) (fun _ c=>absurd c (by simp)) (fun _ c=>absurd c (by simp)) ?_
  rw [ar (by decide),bj (by simp)]
  exact ⟨.str z,H,I,⟨_,rfl⟩,q⟩
variable {g:TG}{tc:TT}{te:TE}
end
open AutoSeq1 (wpAny_loadPart')
section
variable {prog:Program}{w:World}{A:Around}{E:Value->Shared->Prop}{s:Shared}
end
open PySem PySem.Spec PyProof.Rows
section
variable {prog:Program}{w:World}{A:Around}{E:Value->Shared->Prop}{s:Shared}
end
section
variable {X:Cx}{pins:List (Addr×Obj)}{σ: St}{H:Hp}{s:Shared}{a:Addr}{y v:V}{u r:Value}{A:Around}{E:Value->Shared->Prop}
end
section
variable {X:Cx}{pins:List (Addr×Obj)}{σ: St}{H:Hp}{s:Shared}{A:Around}{E:Value->Shared->Prop}
end
open PySem PySem.Spec PyProof.Rows PySem.W
section
variable {n:Nat}(h0:0 < n)
include h0
end
open PySem PySem.Spec PyProof.Rows PySem.W HT
section
variable {prog:Program}{w:World}{A:Around}{E:Value->Shared->Prop}{s:Shared}
end
open PySem PySem.Spec PyProof.Rows
section
variable {prog:Program}{w:World}{A:Around}{E:Value->Shared->Prop}{s:Shared}
end
section
variable {g:TG}{tc:TT}{te:TE}
end
theorem pX (val:Nat->Int):∀ k i,i<=k->val i<=val (argBest (fun i j=>decide (val i > val j)) k)
 |0,i,h=>by
  have:i=0:=by omega
  subst this
  exact ng _
 |k+1,i,h=>by
  have ih:=pX val k
  rw [argBest]
  split
  ·rename_i c
   have c:=ao c
   by_cases e:i=k+1
   ·rw [e];exact ng _
   ·have:=ih i (by omega)
    omega
  ·rename_i c
   have c:¬ val (k+1) > val _:=fun z=>c (ah z)
   by_cases e:i=k+1
   ·rw [e];exact Int.not_lt.mp c
   ·exact ih i (by omega)
section
variable {X:Cx}
end
def ItR (K:PySem.W.Frag) (a:Addr) (n:Nat):It :=
 ⟨fun i H=>∃ xs,bH K H a xs/\xs.length=n/\i < n,fun i H x H'=>H'=H/\∀ ys,bH K H a ys->ys.reverse[i]?=some x,fun i H=>∃ xs,bH K H a xs/\xs.length=n/\n<=i⟩
theorem xL {P:Program}{w:World}{K:PySem.W.Frag}{tg:Expr}(a it:Addr) (n:Nat) (ne:a≠it):rB P w K tg (ItR K a n) [it] it (fun i h=>i<=n/\h.IsRevIter it a ((n:Int) - 1 - (i:Int))) where
 mem:=by simp
 obj:=fun i h st b hb=>by
  have e:b=it:=by simpa using hb
  subst e
  obtain ⟨_,o,e,c,d⟩:=st
  exact ⟨o,e,fun v z=>by rw [d] at z;cases z⟩
 keep:=fun i h h' st k=>⟨st.1,let ⟨o,e,r⟩:=st.2;⟨o,k it (by simp) o e,r⟩⟩
 item:=by
  intro X hP hw hK hc i pins s σ H E I hf st hg
  subst hP hw hK
  obtain ⟨xs,hq,hn,hi⟩:=hg
  obtain ⟨its,rv,p,hz⟩:=I.list hq
  have hl:=rv.length
  have sz:its.toArray.size=n:=by rw [au];omega
  obtain ⟨f0,f1,f2,f3,f4,f5⟩:=hf it (by simp)
  have Wk:=Walks.listRev (prog:=X.prog) (w:=X.w) (A:=X.A) (I.ok.hd hc) it a ne its.toArray
  refine Wk.item i s _ _ (by omega) ⟨by omega,by rw [sz];exact st.2,p.isList⟩ fun v h' tk pv st' kp=>?_
  have I1:aL X pins σ H { s with heap:=h',toks:=tk }:=I.turned (t':=tk) (fun b o hb e=>kp b o (by simpa using hb) e) f0 f1 f3 f4 f5
  have hx:i < xs.reverse.length:=by rw [gk];omega
  obtain ⟨u,hu,ru⟩:=rv.get (show xs[xs.length - 1 - i]?=some (xs[xs.length - 1 - i]'(by omega)) from bp (by omega))
  obtain ⟨o,e,c,d⟩:=id st'.2.1
  have ev:v=u:=by
   have:its.toArray[its.toArray.size - 1 - i]?=some v:=pv
   rw [sz, <- hn] at this
   have t2:its[xs.length - 1 - i]?=some v:=by simpa using this
   rw [hu] at t2
   exact (ci t2).symm
  subst ev
  refine ⟨_,rfl,go_of (s:={ s with heap:=h',toks:=tk }) e c d (by decide) ⟨xs[xs.length - 1 - i]'(by omega),H,I1,ru,⟨rfl,fun ys hy=>?_⟩,⟨by omega,by have:=st'.2.1;rw [sz] at this;exact this⟩,fun b hb=>(hf b hb).1⟩⟩
  rw [I.list_inj hy hq,List.getElem?_reverse (by omega)]
  exact bp (by omega)
 done:=by
  intro X hP hw hK hc i pins s σ H E I hf st hg
  subst hP hw hK
  obtain ⟨xs,hq,hn,hi⟩:=hg
  obtain ⟨its,rv,p,hz⟩:=I.list hq
  have hl:=rv.length
  have sz:its.toArray.size=n:=by rw [au];omega
  obtain ⟨f0,f1,f2,f3,f4,f5⟩:=hf it (by simp)
  have Wk:=Walks.listRev (prog:=X.prog) (w:=X.w) (A:=X.A) (I.ok.hd hc) it a ne its.toArray
  have ei:i=n:=by have:=st.1;omega
  refine Wk.done s _ _ ⟨ae _,by rw [sz, <- ei];have:=st.2;rw [<- ei] at this;exact this,p.isList⟩ fun h' tk kp=>⟨rfl,I.turned (t':=tk) (fun b o hb e=>kp b o (by simpa using hb) e) f0 f1 f3 f4 f5⟩
 self:=fun _ _ _ _ _ st h=>om st.2 h
def aV7 (K:PySem.W.Frag) (te:TE):TI:=fun σ H R=>te σ H fun x H1=>∃ a ys,x= .ref a/\bH K H1 a ys/\R (ItR K a ys.length) H1
theorem wM {X:Cx}{tg:Expr}{e:Expr}{te:TE}{p2 pos2:Pos}(he:PE X e te) (g2:Gl X "reversed") (m2:X.mg "reversed"=none) (hs2:autoParam (starEach [e] X.env=[(false,eval e X.env)]) Rq0._auto_1) :
  PI X tg (.Call (.Name "reversed" p2) [e] [] pos2) (aV7 X.K te):=by
 intro pins s σ H R I h
 refine fw (iN I g2 m2 PyProof.Rows.boot_reversed (fv ?_ hs2 rfl))
 rw [hs2]
 refine pj (bZ (he pins s σ H _ I h) ?_);rintro u s1 ⟨x,H1,I1,r1,a,ys,ex,hq,q⟩;refine qq ?_
 subst ex
 cases r1
 obtain ⟨its,rv,pl,hz⟩:=I1.list hq
 have il:=pl.isList
 have len:=rv.length
 have sz:its.toArray.size=ys.length:=by rw [au];omega
 have aLt:a < s1.heap.objs.size:=by
  obtain ⟨o,e,_⟩:=il
  exact al e
 refine call_reversed_list il ?_
 have st:(s1.heap.push (revObj a ((its.toArray.size:Int) - 1))).IsRevIter s1.heap.objs.size a ((ys.length:Int) - 1 - ((0:Nat):Int)):=by
  rw [sz,Int.natCast_zero,Int.sub_zero]
  exact ⟨_,bn _ rfl,rfl,rfl⟩
 refine om st ?_
 refine ⟨s1.heap.objs.size,[s1.heap.objs.size],_,ItR X.K a ys.length,H1,rfl,I1.kept (t':=s1.toks) fun b o e=>af _ e,xL a _ ys.length (av aLt),⟨bh _,st⟩,fun b hb=>?_,q⟩
 have e:b=s1.heap.objs.size:=by simpa using hb
 subst e
 exact I1.fpOk (ae _) (I1.hok.fresh (ae _))
theorem pL {g:TG}{tc:TT}{te:TE}{K:PySem.W.Frag}{a:Addr}{xs:List V}{Kf:List V->Hp->Prop}{σ0:St}{H1:Hp}(Pv:Nat->List V->St->Hp->Prop) (hz:xs.length < sizeLine) (h0:Pv 0 [] σ0 H1) (hb:∀ i ys σ H,Pv i ys σ H->ys.length<=i) (hl:∀ i ys σ H,i<=xs.length->Pv i ys σ H->bH K H a xs)
  (hs:∀ i x ys σ H,xs.reverse[i]?=some x->Pv i ys σ H->g x σ H fun σ2 H2=>tc σ2 H2 fun b H3=>if b=true then te σ2 H3 fun y H4=>Pv (i+1) (ys++[y]) σ2 H4 else Pv (i+1) ys σ2 H3) (hd:∀ ys σ H,Pv xs.length ys σ H->Kf ys H):lI (ItR K a xs.length) g tc te Kf σ0 H1:=by
 refine ⟨fun i m ys σ H=>m=xs.length - i/\i<=xs.length/\Pv i ys σ H,⟨xs.length,rfl,bh _,h0⟩,?_⟩
 rintro i m ys σ H ⟨rfl,le,p⟩
 have q:=hl i ys σ H le p
 refine ⟨cw (hb _ _ _ _ p) (cw le hz),?_⟩
 by_cases c:i < xs.length
 ·exact .inr ⟨⟨xs,q,rfl,c⟩,Pv (i+1),fun ys' σ' H' p'=>⟨xs.length - (i+1),fi c (dh i),rfl,c,p'⟩,fun x H' ⟨e,y⟩=>by
   subst e
   exact hs i x ys σ _ (y xs q) p⟩
 ·obtain rfl:i=xs.length:=by omega
  exact .inl ⟨⟨xs,q,rfl,ae _⟩,hd ys σ H p⟩
section
variable {X:Cx}
def rCatA:R2:=fun x y H Q=>∃ a b xs ys,x= .ref a/\y= .ref b/\H a=some (.tup xs)/\H b=some (.tup ys)/\xs.length+ys.length<=sizeLine/\∀ r H',aY H H'->H' r=some (.tup (xs++ys))->Q (.ref r) H'
theorem oK:gD X (binaryOp .Add) rCatA:=by
 intro pins s σ H x y v u Q I rx ry h
 obtain ⟨a,b,xs,ys,rfl,rfl,ha,hb,hz,q⟩:=h
 by_cases hx:xs=[]
 ·subst hx
  cases rx
  cases ry
  obtain ⟨its,r1,p1,_⟩:=I.tuple (bA.of ha)
  obtain ⟨its2,r2,p2,_⟩:=I.tuple (bA.of hb)
  cases r1
  obtain ⟨⟨cls,dd,data,sl⟩,ho,hc,n,hd⟩:=id p1
  obtain ⟨⟨cls2,dd2,data2,sl2⟩,ho2,hc2,n2,hd2⟩:=id p2
  simp only at hc hd hc2 hd2
  subst hc hd hc2 hd2
  exact pz ⟨_,ho,rfl⟩ ⟨_,ho2,rfl⟩ lg oq je iy (ip _ _)
   (tuple_addW0 a b _ its2.toArray n n2 dd dd2 sl sl2 (by simp)) ⟨ho,ho2,.ref b,H,I,rfl,q b H (aY.refl _) hb⟩
 ·refine zK pins s σ H _ _ v u Q I rx ry ⟨a,b,xs,ys,rfl,rfl,bA.of ha,bA.of hb,hx,hz,fun e=>?_,fun _ p hp=>q p _ (aB hp _) aD⟩
  subst e
  exact q a H (aY.refl _) (by rw [dm];exact ha)
end
section
variable {prog:Program}{w:World}{A:Around}{E:Value->Shared->Prop}{s:Shared}
end
section
variable {X:Cx}{pins:List (Addr×Obj)}{σ: St}{H:Hp}{s:Shared}{A:Around}{E:Value->Shared->Prop}
end
section
variable {prog:Program}{w:World}{K:Type} [DecidableEq K] {knd:KeyKind prog w K}{A:Around}{E:Value->Shared->Prop}{s:Shared}
end
section
variable {X:Cx}
end
end L2
namespace PySem
namespace F
end F
end PySem
namespace PySem
section
variable {prog:Program}{w:World}{A:Around}{E:Value->Shared->Prop}{s:Shared}
end
end PySem
namespace L2
open PySem PySem.Spec PyProof.Rows
section
variable {prog:Program}{w:World}{A:Around}{E:Value->Shared->Prop}{Q:Value->Shared->Prop}{s:Shared}{it p:Addr}{items:Array Value}
end
open PySem
theorem yZ {H:Hp}{l:Addr}(h:H l=none) (o:HO):∃ H2,aN H l o=H2/\aY H H2/\H2 l=some o:=⟨_,rfl,aB h o,aD⟩
theorem iY:1<=sizeLine:=by decide
theorem dW:2<=sizeLine:=by decide
end L2
namespace Mine
open PySem L2
structure iG (p q:Int):Prop where
 p1:1<=p
 pq:p < q
 q9:q<=9
def gI (H:Hp) (p:Addr) (a b:Int):Prop:=H p=some (.tup [.int a,.int b])
def sI (K:W.Frag):Sp:=fun vs H Q _=>∃ (a:Addr) (ns:List Int),vs=[.ref a]/\bH K H a (ns.map V.int)/\ns.length<=63/\∀ H',Q (.bl true) H'
def dA {α: Type}(R:V->α->Prop):List V->List α->Prop
 |[],[]=>True
 |v :: vs,a :: as=>R v a/\dA R vs as
 |_,_=>False
theorem dA.mono {α: Type}{R R':V->α->Prop}(h:∀ v a,R v a->R' v a):∀ {vs:List V}{as:List α},dA R vs as->dA R' vs as
 |[],[],_=>trivial
 |_ :: _,_ :: _,⟨e,r⟩=>⟨h _ _ e,dA.mono h r⟩
 |[],_ :: _,z=>z.elim
 |_ :: _,[],z=>z.elim
theorem dA.append {α: Type}{R:V->α->Prop}:∀ {vs ws:List V}{as bs:List α},dA R vs as->dA R ws bs->dA R (vs++ws) (as++bs)
 |[],_,[],_,_,r=>r
 |_ :: _,_,_ :: _,_,⟨e,r⟩,r2=>⟨e,dA.append r r2⟩
 |[],_,_ :: _,_,z,_=>z.elim
 |_ :: _,_,[],_,z,_=>z.elim
theorem dA.length {α: Type}{R:V->α->Prop}:∀ {vs:List V}{as:List α},dA R vs as->vs.length=as.length
 |[],[],_=>rfl
 |_ :: _,_ :: _,⟨_,r⟩=>by simp [dA.length r]
 |[],_ :: _,z=>z.elim
 |_ :: _,[],z=>z.elim
def TS (H H':Hp):Prop:=∀ a xs,H a=some (.tup xs)->H' a=some (.tup xs)
theorem TS.of {H H':Hp}(s:aY H H'):TS H H':=fun _ _ e=>s _ _ e
theorem TS.trans {H H1 H2:Hp}(a:TS H H1) (b:TS H1 H2):TS H H2:=fun c o h=>b c o (a c o h)
theorem TS.lst {H:Hp}{l:Addr}{xs ys:List V}(h:H l=some (.lst xs)):TS H (aN H l (.lst ys)):=fun a o e=>by
 rw [aH (iW e h (by intro z;cases z))];exact e
theorem cM {H H1:Hp}{l:Addr}{ys:List V}(s:aY H H1) (h:H l=none):aY H (aN H1 l (.lst ys)):=fun b o e=>by
 rw [aH (aK e h)];exact s b o e
theorem bE {α: Type}{l:List α}{i:Nat}{x:α}(h:l[i]?=some x):l.take (i+1)=l.take i++[x]:=by
 rw [List.take_succ,h];rfl
def lF (H:Hp) (a:Addr) (ns:List Int):Prop:=H a=some (.tup (ns.map V.int))
structure Wts (ws cs:List Int):Prop where
 len:ws.length=cs.length
 few:ws.length<=3
 wt:∀ x∈ws,0<=x/\x<=3
structure dQ (lo hi:Int):Prop where
 a:0<=lo
 b:lo<=hi
 c:hi<=9
theorem aH6 {z:Str}{r:Int}(h0:0<=r) (h1:r < (z.length:Int)):∃ c,jH z.cps.toList r=some c:=by
 have hk:r.toNat < z.cps.toList.length:=by
  rw [ow];exact (Int.toNat_lt h0).mpr h1
 have e2:((r.toNat:Nat):Int)=r:=oy h0;have q:jH z.cps.toList ((r.toNat:Nat):Int)=some z.cps.toList[r.toNat]:=oO (bp hk);rw [e2] at q;exact ⟨_,q⟩
theorem pP:∀ {zs:List Str},(∀ z∈zs,z.length=1)->(zs.map (·.length)).sum=zs.length
 |[],_=>rfl
 |z :: r,h=>by
  have h1:=h z bg;have h2:=pP fun y hy=>h y (aq z hy)
  simp only [List.map_cons,List.sum_cons,List.length_cons,h1,h2];omega
theorem kY (sep:Str):∀ (ys:List Str) (a:Array Nat),(ys.foldl (fun acc p=>acc++sep.cps++p.cps) a).size=a.size+(ys.map (·.length)).sum+ys.length * sep.length
 |[],a=>by simp
 |y :: r,a=>by
  rw [gn,kY sep r];simp only [Array.size_append,List.map_cons,List.sum_cons,List.length_cons,Nat.add_mul,Nat.one_mul];have e1:sep.cps.size=sep.length:=rfl;have e2:y.cps.size=y.length:=rfl;omega
theorem vR (sep:Str) (ys:List Str):(Txt.join sep ys).length<=(ys.map (·.length)).sum+ys.length * sep.length:=by
 cases ys with
 |nil=>exact bh _
 |cons y r =>
  show (List.foldl (fun acc p=>acc++sep.cps++p.cps) y.cps r).size<=_;rw [kY];simp only [List.map_cons,List.sum_cons,List.length_cons,Nat.add_mul,Nat.one_mul];have e2:y.cps.size=y.length:=rfl;omega
def tY (H:Hp) (r:Addr) (wd x:Str) (a3 a4:V) (lo hi:Int):Prop:=H r=some (.tup [.str wd,.str x,a3,a4,.int lo,.int hi])
def dH (H:Hp) (v:V) (ws:List Int):Prop:=∃ a,v= .ref a/\lF H a ws
theorem dH.ts {H H':Hp}{v:V}{ws:List Int}(t:TS H H') (h:dH H v ws):dH H' v ws:=by obtain ⟨a,e,q⟩:=h;exact ⟨a,e,t _ _ q⟩
structure Few (wss:List (List Int)) (cs:List Int):Prop where
 a:1<=wss.length
 b:wss.length<=4
 w:∀ ws∈wss,Wts ws cs
theorem aC3:¬ (("flat": Str)="first"):=by decide +kernel
theorem aA3:¬ (("choose": Str)="first"):=by decide +kernel
theorem aQ9 {a b:Str}(h:¬ a=b):decide (V.str a=V.str b)=false:=bo fun z=>h (V.str.inj z)
theorem aN0 (a:Str):decide (V.str a=V.str a)=true:=ah rfl
theorem vY {b:Bool}{A B:Prop}(h:b=false) (x:B):if b=true then A else B:=by subst h;exact x
theorem uX {b:Bool}{A B:Prop}(h:b=true) (x:A):if b=true then A else B:=by subst h;exact x
structure aN8 (lo hi:Int):Prop where
 a:0<=lo
 b:lo+1<=hi
 c:hi<=9
section
variable {p q lo h n n' m m':Int}
end
section
variable {p q lo h:Int}
end
section
variable {pa qa pb qb mk lo hi:Int}{ns ns':List Int}{w:Nat}
end
def aV3 (H:Hp) (r:Addr) (x:Str) (mk:Int) (sa sb sm:Addr) (lo hi:Int):Prop:=H r=some (.tup [.str "first",.str x,.int mk,.ref sa,.ref sb,.ref sm,.int lo,.int hi])
def gX (H:Hp) (sm:Addr) (wss:List (List Int)):Prop:=∃ vs,H sm=some (.tup vs)/\dA (dH H) vs wss
theorem gX.ts {H H':Hp}{sm:Addr}{wss:List (List Int)}(t:TS H H') (h:gX H sm wss):gX H' sm wss:=by obtain ⟨vs,e,q⟩:=h;exact ⟨vs,t _ _ e,q.mono fun _ _ z=>z.ts t⟩
end Mine
namespace L2
open PySem PySem.Spec PyProof.Rows
theorem uG {K:PySem.W.Frag}{a:Addr}{xs:List V}{g:TG}{tb:TS}{D:dQ}{σ: St}{H:Hp}(Pv:Nat->St->Hp->Prop) (h0:Pv 0 σ H) (hl:∀ i σ H,i<=xs.length->Pv i σ H->bH K H a xs)
  (hs:∀ (D':dQ),∀ i x σ H,xs[i]?=some x->Pv i σ H->g x σ H fun σ2 H2=>tb { D' with nx:=Pv (i+1),ct:=Pv (i+1),bk:=D'.nx } σ2 H2) (hd:∀ σ H,Pv xs.length σ H->D.nx σ H) :
  ∃ W:Nat->Nat->St->Hp->Prop,(∃ m,W 0 m σ H)/\∀ i m σ H,W i m σ H ->
   ((uW K a).stop i H/\D.nx σ H)\/((uW K a).go i H/\∃ N:St->Hp->Prop,(∀ σ' H',N σ' H'->∃ m',m' < m/\W (i+1) m' σ' H')/\∀ x H',(uW K a).yld i H x H'->g x σ H' fun σ2 H2=>tb { D with nx:=N,ct:=N,bk:=D.nx } σ2 H2):=wH Pv h0 hl (hs D) hd
theorem xJ {K:PySem.W.Frag}{a:Addr}{xs:List V}{g:TG}{tb:TS}{D:dQ}{σ: St}{H:Hp}(Pv:Nat->St->Hp->Prop) (h0:Pv 0 σ H) (hl:∀ i σ H,i<=xs.length->Pv i σ H->bA K H a xs)
  (hs:∀ (D':dQ),∀ i x σ H,xs[i]?=some x->Pv i σ H->g x σ H fun σ2 H2=>tb { D' with nx:=Pv (i+1),ct:=Pv (i+1),bk:=D'.nx } σ2 H2) (hd:∀ σ H,Pv xs.length σ H->D.nx σ H) :
  ∃ W:Nat->Nat->St->Hp->Prop,(∃ m,W 0 m σ H)/\∀ i m σ H,W i m σ H ->
   ((uV K a).stop i H/\D.nx σ H)\/((uV K a).go i H/\∃ N:St->Hp->Prop,(∀ σ' H',N σ' H'->∃ m',m' < m/\W (i+1) m' σ' H')/\∀ x H',(uV K a).yld i H x H'->g x σ H' fun σ2 H2=>tb { D with nx:=N,ct:=N,bk:=D.nx } σ2 H2):=zF Pv h0 hl (hs D) hd
theorem iL {lo:Int}{n:Nat}{g:TG}{tb:TS}{D:dQ}{σ: St}{H:Hp}(Pv:Nat->St->Hp->Prop) (h0:Pv 0 σ H)
  (hs:∀ (D':dQ),∀ i σ H,i < n->Pv i σ H->g (.int (lo+i)) σ H fun σ2 H2=>tb { D' with nx:=Pv (i+1),ct:=Pv (i+1),bk:=D'.nx } σ2 H2) (hd:∀ σ H,Pv n σ H->D.nx σ H) :
  ∃ W:Nat->Nat->St->Hp->Prop,(∃ m,W 0 m σ H)/\∀ i m σ H,W i m σ H ->
   ((sD lo n).stop i H/\D.nx σ H)\/((sD lo n).go i H/\∃ N:St->Hp->Prop,(∀ σ' H',N σ' H'->∃ m',m' < m/\W (i+1) m' σ' H')/\∀ x H',(sD lo n).yld i H x H'->g x σ H' fun σ2 H2=>tb { D with nx:=N,ct:=N,bk:=D.nx } σ2 H2):=tH Pv h0 (hs D) hd
end L2
namespace Mine
open PySem L2
end Mine
namespace L2
open PySem PySem.Spec PyProof.Rows
def eT (n:Nat) (i:Int):Prop:=i.natAbs < 2 ^ n
theorem eT.of {n:Nat}{i:Int}(h0:0<=i) (h1:i < 2 ^ n):eT n i:=by
 unfold eT;have e:((i.natAbs:Nat):Int)=i:=ol h0;have:((i.natAbs:Nat):Int) < ((2 ^ n:Nat):Int):=by rw [e];exact_mod_cast h1
 exact Int.ofNat_lt.mp this
def aP8 (i j:Int):Prop:=∃ m n,eT m i/\eT n j/\m<=100000/\n<=100000
theorem jF {X:Cx}:gD X (binaryOp .Mult) (rI aP8 fun i j=> .int (i * j)):=opI fun _ _ _ _ _ _ _ hc q=>by
 obtain ⟨m,n,a,b,hm,hn⟩:=hc;exact mul_int q (IntMulOk.of_bits (aj (me a) (aj hm (by decide))) (aj (me b) (aj hn (by decide))))
def aO3 (i j:Int):Prop:=0 < j/\∃ n,eT n j/\n<=8990
theorem gP {X:Cx}:gD X (binaryOp .FloorDiv) (rI aO3 fun i j=> .int (i / j)):=opI fun i j _ _ _ _ _ hc q=>by
 obtain ⟨h0,n,h1,hn⟩:=hc;refine floordiv_int (by omega) ?_ (.inl (lj ?_))
 ·rw [kj i (by omega)];exact q
 ·have h3:j.natAbs≠0:=by omega
  exact ai ((Nat.log2_lt h3).mpr h1) (aj hn (by decide))
end L2
namespace Mine
open PySem L2
inductive eO where
 |lad (p q lo hi:Int)
 |fla (r lo hi:Int)
 |cho (p q lo hi:Int)
 |fst (pa qa pb qb mk lo hi:Int)
namespace eO
def wd:eO->Str
 |lad .. =>"ladder" | fla .. =>"flat" | cho .. =>"choose" | fst .. =>"first"
def one:eO->Bool
 |lad .. =>true | fla .. =>true | cho .. =>false | fst .. =>false
def lo:eO->Int
 |lad _ _ l _=>l | fla _ l _=>l | cho _ _ l _=>l | fst _ _ _ _ _ l _=>l
def hb:eO->Int
 |lad _ _ _ h=>h | fla _ _ h=>h | cho _ _ _ h=>h | fst _ _ _ _ _ _ h=>h - 1
structure Ok (T:eO):Prop where
 l:match T with
  |lad p q lo hi=>iG p q/\dQ lo hi
  |fla r lo hi=>0<=r/\r<=4/\dQ lo hi
  |cho p q lo hi=>iG p q/\dQ lo hi
  |fst pa qa pb qb mk lo hi=>iG pa qa/\iG pb qb/\2 * pb<=qb/\aN8 lo hi/\lo<=mk/\mk<=hi
variable {T:eO}{ns ns':List Int}{w:Nat}
theorem Ok.lo0 (h:T.Ok):0<=T.lo/\T.lo<=T.hb/\T.hb<=9:=by
 cases T with
 |lad p q lo hi=>have e:=h.l.2;exact ⟨e.a,e.b,e.c⟩
 |fla r lo hi=>have e:=h.l.2.2;exact ⟨e.a,e.b,e.c⟩
 |cho p q lo hi=>have e:=h.l.2;exact ⟨e.a,e.b,e.c⟩
 |fst pa qa pb qb mk lo hi=>have e:=h.l.2.2.2.1;have:=e.a;have:=e.b;have:=e.c;exact ⟨e.a,by show lo<=hi - 1;omega,by show hi - 1<=9;omega⟩
end eO
open PySem L2
def qG (wd:Str):Bool:=oU (.str wd) [.str "ladder",.str "flat"]
def tS (H:Hp) (r:Addr) (wd:Str) (a3:V) (lo hb:Int):Prop:=∃ xs,H r=some (.tup xs)/\jH xs 0=some (.str wd)/\jH xs (if wd="first" then 5 else 2)=some a3/\jH xs (-2)=some (.int lo)/\jH xs (-1)=some (.int (if wd="first" then hb+1 else hb))
def aL5 (H:Hp) (r:Addr) (T:eO) (a3:V):Prop:=match T with
 |.lad p q lo hi=>∃ x st,tY H r "ladder" x a3 (.ref st) lo hi/\gI H st p q
 |.fla rr lo hi=>∃ x,tY H r "flat" x a3 (.int rr) lo hi
 |.cho p q lo hi=>∃ x st,tY H r "choose" x a3 (.ref st) lo hi/\gI H st p q
 |.fst pa qa pb qb mk lo hi=>∃ x sa sb sm,a3= .ref sm/\aV3 H r x mk sa sb sm lo hi/\gI H sa pa qa/\gI H sb pb qb
theorem aC2:¬ (("ladder": Str)="first"):=by decide +kernel
theorem aL5.v {H:Hp}{r:Addr}{a3:V}:∀ {T:eO},aL5 H r T a3->tS H r T.wd a3 T.lo T.hb
 |.lad _ _ _ hi,⟨x,st,h,_⟩=>⟨_,h,rfl,by show jH _ (if ("ladder": Str)="first" then 5 else 2)=some a3;rw [if_neg aC2];rfl,rfl,by show _=some (V.int (if ("ladder": Str)="first" then hi+1 else hi));rw [if_neg aC2];rfl⟩
 |.fla _ _ hi,⟨x,h⟩=>⟨_,h,rfl,by show jH _ (if ("flat": Str)="first" then 5 else 2)=some a3;rw [if_neg aC3];rfl,rfl,by show _=some (V.int (if ("flat": Str)="first" then hi+1 else hi));rw [if_neg aC3];rfl⟩
 |.cho _ _ _ hi,⟨x,st,h,_⟩=>⟨_,h,rfl,by show jH _ (if ("choose": Str)="first" then 5 else 2)=some a3;rw [if_neg aA3];rfl,rfl,by show _=some (V.int (if ("choose": Str)="first" then hi+1 else hi));rw [if_neg aA3];rfl⟩
 |.fst _ _ _ _ _ _ hi,⟨x,sa,sb,sm,e,h,_⟩=>⟨_,h,rfl,by show jH _ (if ("first": Str)="first" then 5 else 2)=some a3;rw [if_pos rfl,e];rfl,rfl,by show some (V.int hi)=some (V.int (if ("first": Str)="first" then hi - 1+1 else hi - 1));rw [if_pos rfl,show hi - 1+1=hi by omega]⟩
theorem tS.ts {H H':Hp}(t:TS H H') {r:Addr}{wd:Str}{a3:V}{lo hb:Int}(h:tS H r wd a3 lo hb):tS H' r wd a3 lo hb:=by obtain ⟨xs,a,b⟩:=h;exact ⟨xs,t _ _ a,b⟩
theorem aE9:∀ T:eO,qG T.wd=T.one
 |.lad .. =>by show qG "ladder"=true;decide +kernel
 |.fla .. =>by show qG "flat"=true;decide +kernel
 |.cho .. =>by show qG "choose"=false;decide +kernel
 |.fst .. =>by show qG "first"=false;decide +kernel
def pW (H:Hp) (b:Bool) (a3:V) (wss:List (List Int)):Prop:=(b=true/\∃ w ws,a3= .ref w/\lF H w ws/\wss=[ws])\/(b=false/\∃ sm,a3= .ref sm/\gX H sm wss)
theorem pW.ts {H H':Hp}(t:TS H H') {b:Bool}{a3:V}{wss:List (List Int)}(h:pW H b a3 wss):pW H' b a3 wss:=by
 rcases h with ⟨e,w,ws,e1,e2,e3⟩ | ⟨e,sm,e1,e2⟩
 ·exact .inl ⟨e,w,ws,e1,t _ _ e2,e3⟩
 ·exact .inr ⟨e,sm,e1,e2.ts t⟩
def spOneU:Sp:=fun vs H Q _=>∃ wd:Str,vs=[.str wd]/\∀ H',aY H H'->Q (.bl (qG wd)) H'
def spPlaceU:Sp:=fun vs H Q _=>∃ wd:Str,vs=[.str wd]/\Q (.int (if wd="first" then 5 else 2)) H
def spSumsU:Sp:=fun vs H Q _=>∃ r wd a3 lo hb wss,vs=[.ref r]/\tS H r wd a3 lo hb/\pW H (qG wd) a3 wss/\∀ H' t us,aY H H'->H' t=some (.tup us)->dA (dH H') us wss->Q (.ref t) H'
def spRngU:Sp:=fun vs H Q _=>∃ r wd a3 lo hb,vs=[.ref r]/\tS H r wd a3 lo hb/\∀ H' t,aY H H'->gI H' t lo hb->Q (.ref t) H'
structure yN (T:eO) (wss:List (List Int)) (cs:List Int):Prop where
 few:Few wss cs
 o:T.one=true->wss.length=1
end Mine
namespace L2
open PySem PySem.Spec PyProof.Rows
abbrev NKey:=Key ⊕ List Key
section
variable {prog:Program}{w:World}
variable {A:Around}{E:Value->Shared->Prop}{s:Shared}
end
theorem sQ {X:Cx}{j:Nat}{p p2:Pos}:PE X (.UnaryOp .USub (.Constant (.int 1) j p) p2) (tC (.int (-1))):=fun pins s σ H Q I h =>
 wC (X:=X) rP aC pins s σ H Q I ⟨1,rfl,h⟩
section
variable {X:Cx}
def aM8 (t:TT):TT:=fun σ H Q=>∃ P:Bool->Hp->Prop,t σ H P/\∀ b G,P b G->Q b G
theorem fV {e:Expr}{t:TT}(h:PT X e t):PT X e (aM8 t):=by
 intro pins s σ H Q I ⟨P,h1,h2⟩;refine bZ (h pins s σ H P I h1) ?_;rintro b s' ⟨G,I',p⟩;exact ⟨G,I',h2 b G p⟩
def aQ2 (t:TS):TS:=fun D σ H=>∃ P:St->Hp->Prop,t { D with nx:=P } σ H/\∀ σ' G,P σ' G->D.nx σ' G
theorem jA {st:Stmt}{t:TS}(h:PS X st t):PS X st (aQ2 t):=by
 intro pins s σ H D I ⟨P,h1,h2⟩;refine bZ (h pins s σ H _ I h1) fun f s' q=>?_
 cases f with
 |next =>
  obtain ⟨σ',G,I',p⟩:=q;exact ⟨σ',G,I',h2 σ' G p⟩
 |ret v=>exact q
 |brk=>exact q
 |cont=>exact q
end
section
variable {X:Cx}{o e:Expr}{es:List Expr}{to:TE}{t:TA}{name:Str}{apos cpos:Pos}{T id:String}{r:V->List V->Hp->VK->Prop}
end
def aW0 (σ: List Key) (k:Key):Bool:=σ.any fun j=>decide (j=k)
def ddS (σ: List Key) (k:Key):List Key:=if aW0 σ k=true then σ else σ++[k]
def dd (ks:List Key):List Key:=ks.foldl ddS []
section
variable {prog:Program}{w:World}{A:Around}{R:Result->Shared->Prop}{I:Addr}{fp wr:List Addr}{G:Array GenState->Array GenState->Prop}{n:Nat}{P:Nat->Value->Prop}{St:Nat->Shared->Prop}
end
section
variable {prog:Program}{w:World}{A:Around}{E:Value->Shared->Prop}{s:Shared}
end
section
variable {X:Cx}
end
section
variable {prog:Program}{w:World}{A:Around}{E:Value->Shared->Prop}{s:Shared}{a:Addr}{S:Key->Bool}{n:Nat}{led:Bool}
end
section
variable {prog:Program}{w:World}{A:Around}{E:Value->Shared->Prop}{s:Shared}
end
section
variable {prog:Program}{w:World}{A:Around}{E:Value->Shared->Prop}{s:Shared}{a:Addr}{o:Obj}{es:Array (Int×Value)}{ep:Nat}{t:SetTable}
end
section
variable {prog:Program}{w:World}{A:Around}{E:Value->Shared->Prop}{s:Shared}{a it tp:Addr}{o:Obj}{es:Array (Int×Value)}{ep:Nat}{t:SetTable}
end
section
variable {prog:Program}{w:World}{A:Around}{E:Value->Shared->Prop}{s:Shared}{d it:Addr}{o:Obj}{es:Array DictEntry}{ep i:Nat}
end
section
variable {prog:Program}{w:World}{A:Around}{E:Value->Shared->Prop}{s:Shared}{a it tp:Addr}{o:Obj}{es:Array (Int×Value)}{ep:Nat}{t:SetTable}
end
section
variable {prog:Program}{w:World}{A:Around}{E:Value->Shared->Prop}{s:Shared}{a tp:Addr}{o:Obj}{es:Array (Int×Value)}{ep:Nat}{t:SetTable}
end
section
variable {prog:Program}{w:World}{A:Around}{E:Value->Shared->Prop}{s:Shared}{a:Addr}{o:Obj}{es:Array (Int×Value)}{ep:Nat}{t:SetTable}
end
abbrev tk (ts:List Str):List Key:=ts.map Sum.inr
section
variable {prog:Program}{w:World}{A:Around}{R:Result->Shared->Prop}{I:Addr}{fp wr:List Addr}{G:Array GenState->Array GenState->Prop}{n:Nat}{P:Nat->Value->Prop}{St:Nat->Shared->Prop}{led:Bool}
end
section
variable {prog:Program}{w:World}{A:Around}{E:Value->Shared->Prop}{s:Shared}
end
section
variable {X:Cx}{k:Nat}
end
section
variable {P:Program}{w:World}{H:Hp}{h:Heap}{a:Addr}
end
section
variable {P:Program}{w:World}{H:Hp}{h:Heap}{a:Addr}
end
section
variable {X:Cx}{pins:List (Addr×Obj)}{σ: St}{H:Hp}{s:Shared}{a:Addr}{y v:V}{u r:Value}{o:Option V}{A:Around}{E:Value->Shared->Prop}
end
section
variable {X:Cx}{o i e value:Expr}{pos pos' tpos:Pos}{td ty tv:TE}{k:Nat}
end
abbrev RKey:=Key ⊕ List NKey
instance rkeyEq:DecidableEq (List RKey):= @instDecidableEqList RKey (@instDecidableEqSum Key (List NKey) inferInstance inferInstance)
section
variable {prog:Program}{w:World}{A:Around}{E:Value->Shared->Prop}{s:Shared}
end
section
variable {prog:Program}{w:World}
variable {A:Around}{E:Value->Shared->Prop}{s:Shared}
end
section
variable {P:Program}{w:World}{H:Hp}{h:Heap}{a:Addr}
end
section
variable {P:Program}{w:World}{H:Hp}{h:Heap}{a:Addr}
end
section
variable {X:Cx}{pins:List (Addr×Obj)}{σ: St}{H:Hp}{s:Shared}{a:Addr}{y v:V}{u r:Value}{o:Option V}{A:Around}{E:Value->Shared->Prop}
end
section
variable {X:Cx}{o i e value:Expr}{pos pos' tpos:Pos}{td ty tv:TE}{k:Nat}
end
end L2
namespace Mine
open PySem L2
inductive Tm where
 |num (p:Addr) (n:Int)
 |nam (p:Addr) (x:Str)
 |op (p:Addr) (s:Str) (a b:Tm)
def Tm.p:Tm->Addr
 |.num p _=>p
 |.nam p _=>p
 |.op p _ _ _=>p
def Tm.names:Tm->List Str
 |.num _ _=>[]
 |.nam _ x=>[x]
 |.op _ _ a b=>a.names++b.names
def Tm.size:Tm->Nat
 |.op _ _ a b=>1+a.size+b.size
 |_=>1
def aP1:List Str:=["+","-","*","<","="]
def Tm.ok:Tm->Prop
 |.num _ n=>0<=n/\n < 1000
 |.nam _ _=>True
 |.op _ s a b=>s∈aP1/\a.ok/\b.ok
def wN (H:Hp):Tm->Prop
 |.num p n=>H p=some (.tup [.str "num",.int n])
 |.nam p x=>H p=some (.tup [.str "name",.str x])
 |.op p s a b=>H p=some (.tup [.str "op",.str s,.ref a.p,.ref b.p])/\wN H a/\wN H b
theorem wN.ts {H H':Hp}(t:TS H H'):∀ {a:Tm},wN H a->wN H' a
 |.num _ _,h=>t _ _ h
 |.nam _ _,h=>t _ _ h
 |.op _ _ _ _,⟨h,ha,hb⟩=>⟨t _ _ h,wN.ts t ha,wN.ts t hb⟩
inductive Rw where
 |thr (p:Addr) (x:Str) (T:eO) (a3:V) (wss:List (List Int))
 |lt (p:Addr) (x:Str) (t:Tm)
 |tell (p:Addr) (t:Tm)
 |when (p pa pb:Addr) (t:Tm) (a b:List Rw)
 |times (p pb:Addr) (n:Nat) (b:List Rw)
def Rw.p:Rw->Addr
 |.thr p _ _ _ _=>p
 |.lt p _ _=>p
 |.tell p _=>p
 |.when p _ _ _ _ _=>p
 |.times p _ _ _=>p
mutual
def Rw.cost:Rw->Nat
 |.thr _ _ _ _ _=>1
 |.lt _ _ _=>1
 |.tell _ _=>1
 |.when _ _ _ _ a b=>1+(cR a+cR b)
 |.times _ _ n b=>1+n * cR b
def cR:List Rw->Nat
 |[]=>0
 |r :: rs=>r.cost+cR rs
end
theorem mS:∀ (rs qs:List Rw),cR (rs++qs)=cR rs+cR qs
 |[],qs=>by simp [cR]
 |r :: rs,qs=>by simp only [List.cons_append,cR,mS rs qs];omega
abbrev Ev:=Str->Int
abbrev Lf:=List Int×Int×Int
section
variable {cs:List Int}{rs:List Rw}{e:Ev}{td:List Int}{sh:Int×Int}
end
mutual
def okR (NM:List Str) (cs:List Int):Rw->Prop
 |.thr _ x T _ wss=>(T.Ok/\yN T wss cs)/\x∈NM
 |.lt _ x t=>(t.ok/\t.size<=900)/\x∈NM
 |.tell _ t=>t.ok/\t.size<=900
 |.when _ _ _ t a b=>(t.ok/\t.size<=900)/\tL NM cs a/\tL NM cs b
 |.times _ _ _ b=>tL NM cs b
def tL (NM:List Str) (cs:List Int):List Rw->Prop
 |[]=>True
 |r :: rs=>okR NM cs r/\tL NM cs rs
end
theorem tL.app {NM:List Str}{cs:List Int}:∀ {rs qs:List Rw},tL NM cs rs->tL NM cs qs->tL NM cs (rs++qs)
 |[],_,_,h=>h
 |_ :: _,_,⟨h,k⟩,h2=>⟨h,tL.app k h2⟩
def szT (T:eO) (wss:List (List Int)):Nat:=match T with
 |.lad _ _ lo hi=>(hi+1 - lo).toNat
 |.fla _ lo hi=>(hi+1 - lo).toNat
 |.cho .. =>wss.length
 |.fst .. =>wss.length+1
mutual
def wR:Rw->Nat
 |.thr _ _ T _ wss=>szT T wss
 |.lt _ _ _=>1
 |.tell _ _=>1
 |.when _ _ _ _ a b=>wL a * wL b
 |.times _ _ n b=>wL b ^ n
def wL:List Rw->Nat
 |[]=>1
 |r :: rs=>wR r * wL rs
end
theorem vN:∀ (rs qs:List Rw),wL (rs++qs)=wL rs * wL qs
 |[],qs=>by simp [wL]
 |r :: rs,qs=>by simp only [List.cons_append,wL,vN rs qs,Nat.mul_assoc]
section
variable {cs:List Int}{T:eO}{wss:List (List Int)}
end
mutual
def tP:Rw->List Str->List Str
 |.thr _ x _ _ _,D=>x :: D
 |.lt _ x _,D=>x :: D
 |.tell _ _,D=>D
 |.when _ _ _ _ a b,D=>(kI a D).filter fun x=>decide (x∈kI b D)
 |.times _ _ _ b,D=>kI b D
def kI:List Rw->List Str->List Str
 |[],D=>D
 |r :: rs,D=>kI rs (tP r D)
end
mutual
def knR:Rw->List Str->Prop
 |.thr _ _ _ _ _,_=>True
 |.lt _ _ t,D=>∀ x∈t.names,x∈D
 |.tell _ t,D=>∀ x∈t.names,x∈D
 |.when _ _ _ t a b,D=>(∀ x∈t.names,x∈D)/\uR a D/\uR b D
 |.times _ _ n b,D=>(1<=n/\n<=100)/\uR b D
def uR:List Rw->List Str->Prop
 |[],_=>True
 |r :: rs,D=>knR r D/\uR rs (tP r D)
end
abbrev jL (D D':List Str):Prop:=∀ x∈D,x∈D'
mutual
theorem aC8:∀ (r:Rw) (D:List Str),jL D (tP r D)
 |.thr _ x _ _ _,D=>fun y h=>aq _ h
 |.lt _ x _,D=>fun y h=>aq _ h
 |.tell _ _,D=>fun y h=>h
 |.when _ _ _ _ a b,D=>fun y h=>de.mpr ⟨kR a D y h,ah (kR b D y h)⟩
 |.times _ _ _ b,D=>kR b D
theorem kR:∀ (rs:List Rw) (D:List Str),jL D (kI rs D)
 |[],D=>fun y h=>h
 |r :: rs,D=>fun y h=>kR rs _ y (aC8 r D y h)
end
mutual
theorem pT:∀ (r:Rw) {D D':List Str},jL D D'->jL (tP r D) (tP r D')
 |.thr _ x _ _ _,D,D',s=>fun y h=>by
  rcases bv.mp h with e | h
  ·rw [e];exact bg
  ·exact aq _ (s y h)
 |.lt _ x _,D,D',s=>fun y h=>by
  rcases bv.mp h with e | h
  ·rw [e];exact bg
  ·exact aq _ (s y h)
 |.tell _ _,D,D',s=>s
 |.when _ _ _ _ a b,D,D',s=>fun y h=>by
  obtain ⟨h1,h2⟩:=de.mp h;exact de.mpr ⟨fL a s y h1,ah (fL b s y (ao h2))⟩
 |.times _ _ _ b,D,D',s=>fL b s
theorem fL:∀ (rs:List Rw) {D D':List Str},jL D D'->jL (kI rs D) (kI rs D')
 |[],D,D',s=>s
 |r :: rs,D,D',s=>fL rs (pT r s)
end
mutual
theorem yR:∀ (r:Rw) {D D':List Str},jL D D'->knR r D->knR r D'
 |.thr _ x _ _ _,_,_,_,_=>trivial
 |.lt _ x t,_,_,s,h=>fun y hy=>s y (h y hy)
 |.tell _ t,_,_,s,h=>fun y hy=>s y (h y hy)
 |.when _ _ _ t a b,_,_,s,h=>⟨fun y hy=>s y (h.1 y hy),gQ a s h.2.1,gQ b s h.2.2⟩
 |.times _ _ _ b,_,_,s,h=>⟨h.1,gQ b s h.2⟩
theorem gQ:∀ (rs:List Rw) {D D':List Str},jL D D'->uR rs D->uR rs D'
 |[],_,_,_,_=>trivial
 |r :: rs,_,_,s,h=>⟨yR r s h.1,gQ rs (pT r s) h.2⟩
end
theorem oX:∀ (rs qs:List Rw) (D:List Str),kI (rs++qs) D=kI qs (kI rs D)
 |[],_,_=>rfl
 |r :: rs,qs,D=>oX rs qs (tP r D)
theorem sM:∀ {rs qs:List Rw}{D:List Str},uR rs D->uR qs (kI rs D)->uR (rs++qs) D
 |[],_,_,_,h=>h
 |r :: rs,qs,D,h,k=>⟨h.1,sM h.2 k⟩
mutual
def uK:Rw->Nat
 |.thr _ _ _ _ _=>0
 |.lt _ _ _=>0
 |.tell _ _=>1
 |.when _ _ _ _ a b=>max (hZ a) (hZ b)
 |.times _ _ n b=>n * hZ b
def hZ:List Rw->Nat
 |[]=>0
 |r :: rs=>uK r+hZ rs
end
theorem pA:∀ (rs qs:List Rw),hZ (rs++qs)=hZ rs+hZ qs
 |[],qs=>by simp [hZ]
 |r :: rs,qs=>by simp only [List.cons_append,hZ,pA rs qs];omega
structure Rn where
 rs:List Rw
 e:Ev
 td:List Int
 sh:Int×Int
section
variable {NM:List Str}{cs:List Int}{M:Int}{D:List Str}{rs:List Rw}{e:Ev}{td:List Int}{sh:Int×Int}
end
def pJ (H:Hp) (r:Addr) (x:Str) (T:eO) (a3:V):Prop:=match T with
 |.lad p q lo hi=>∃ st,tY H r "ladder" x a3 (.ref st) lo hi/\gI H st p q
 |.fla rr lo hi=>tY H r "flat" x a3 (.int rr) lo hi
 |.cho p q lo hi=>∃ st,tY H r "choose" x a3 (.ref st) lo hi/\gI H st p q
 |.fst pa qa pb qb mk lo hi=>∃ sa sb sm,a3= .ref sm/\aV3 H r x mk sa sb sm lo hi/\gI H sa pa qa/\gI H sb pb qb
theorem pJ.t {H:Hp}{r:Addr}{x:Str}{a3:V}:∀ {T:eO},pJ H r x T a3->aL5 H r T a3
 |.lad ..,⟨st,h,k⟩=>⟨x,st,h,k⟩
 |.fla ..,h=>⟨x,h⟩
 |.cho ..,⟨st,h,k⟩=>⟨x,st,h,k⟩
 |.fst ..,⟨sa,sb,sm,h⟩=>⟨x,sa,sb,sm,h⟩
theorem pJ.ts {H H':Hp}(t:TS H H') {r:Addr}{x:Str}{a3:V}:∀ {T:eO},pJ H r x T a3->pJ H' r x T a3
 |.lad ..,⟨st,h,k⟩=>⟨st,t _ _ h,t _ _ k⟩
 |.fla ..,h=>t _ _ h
 |.cho ..,⟨st,h,k⟩=>⟨st,t _ _ h,t _ _ k⟩
 |.fst ..,⟨sa,sb,sm,e,h,k,l⟩=>⟨sa,sb,sm,e,t _ _ h,t _ _ k,t _ _ l⟩
theorem pJ.at {H:Hp}{r:Addr}{x:Str}{a3:V}:∀ {T:eO},pJ H r x T a3->∃ us,H r=some (.tup (.str T.wd :: .str x :: us))
 |.lad ..,⟨st,h,k⟩=>⟨_,h⟩
 |.fla ..,h=>⟨_,h⟩
 |.cho ..,⟨st,h,k⟩=>⟨_,h⟩
 |.fst ..,⟨sa,sb,sm,e,h,k,l⟩=>⟨_,h⟩
def aQ (rs:List Rw):List V:=rs.map fun r=> .ref r.p
mutual
def iC (H:Hp):Rw->Prop
 |.thr p x T a3 wss=>pJ H p x T a3/\pW H T.one a3 wss
 |.lt p x t=>H p=some (.tup [.str "let",.str x,.ref t.p])/\wN H t
 |.tell p t=>H p=some (.tup [.str "tell",.ref t.p])/\wN H t
 |.when p pa pb t a b=>H p=some (.tup [.str "when",.ref t.p,.ref pa,.ref pb])/\wN H t/\H pa=some (.tup (aQ a))/\H pb=some (.tup (aQ b))/\bI H a/\bI H b
 |.times p pb n b=>H p=some (.tup [.str "times",.int n,.ref pb])/\H pb=some (.tup (aQ b))/\bI H b
def bI (H:Hp):List Rw->Prop
 |[]=>True
 |r :: rs=>iC H r/\bI H rs
end
mutual
theorem iC.ts {H H':Hp}(t:TS H H'):∀ (r:Rw),iC H r->iC H' r
 |.thr _ _ _ _ _,⟨h,k⟩=>⟨h.ts t,k.ts t⟩
 |.lt _ _ _,⟨h,k⟩=>⟨t _ _ h,k.ts t⟩
 |.tell _ _,⟨h,k⟩=>⟨t _ _ h,k.ts t⟩
 |.when _ _ _ _ a b,⟨h,k,ha,hb,ra,rb⟩=>⟨t _ _ h,k.ts t,t _ _ ha,t _ _ hb,bI.ts t a ra,bI.ts t b rb⟩
 |.times _ _ _ b,⟨h,hb,rb⟩=>⟨t _ _ h,t _ _ hb,bI.ts t b rb⟩
theorem bI.ts {H H':Hp}(t:TS H H'):∀ (rs:List Rw),bI H rs->bI H' rs
 |[],_=>trivial
 |r :: rs,⟨h,k⟩=>⟨iC.ts t r h,bI.ts t rs k⟩
end
theorem bI.app {H:Hp}:∀ {rs qs:List Rw},bI H rs->bI H qs->bI H (rs++qs)
 |[],_,_,h=>h
 |_ :: _,_,⟨h,k⟩,h2=>⟨h,bI.app k h2⟩
def tG (ns:List Int):List NKey:=ns.map fun n=> .inl (.inl n)
def aU5 (ws:List Int):NKey:= .inr (ws.map fun n=> .inl n)
def kN (n:Int):RKey:= .inl (.inl n)
def kS (s:Str):RKey:= .inl (.inr s)
def aX1 (x:Str) (T:eO) (wss:List (List Int)):List RKey:=match T with
 |.lad p q lo hi=>[kS "ladder",kS x,.inr (tG (wss.headD [])),.inr (tG [p,q]),kN lo,kN hi]
 |.fla r lo hi=>[kS "flat",kS x,.inr (tG (wss.headD [])),kN r,kN lo,kN hi]
 |.cho p q lo hi=>[kS "choose",kS x,.inr (wss.map aU5),.inr (tG [p,q]),kN lo,kN hi]
 |.fst pa qa pb qb mk lo hi=>[kS "first",kS x,kN mk,.inr (tG [pa,qa]),.inr (tG [pb,qb]),.inr (wss.map aU5),kN lo,kN hi]
end Mine
namespace L2
open PySem PySem.Spec PyProof.Rows
section
variable {X:Cx}
end
section
variable {prog:Program}{w:World}{A:Around}{E:Value->Shared->Prop}{s:Shared}{d it v:Addr}{o:Obj}{es:Array DictEntry}{ep i:Nat}
end
section
variable {prog:Program}{w:World}{A:Around}{E:Value->Shared->Prop}{s:Shared}
end
section
variable {X:Cx}
end
section
variable {X:Cx}
end
open PySem PySem.Spec PyProof.Rows PySem.MeetsSeq
section
variable {prog:Program}{w:World}{A:Around}{E:Value->Shared->Prop}{s:Shared}
end
section
variable {X:Cx}{pins:List (Addr×Obj)}{σ: St}{H:Hp}{s:Shared}
end
open PySem PySem.Spec PyProof.Rows
section
variable {prog:Program}{w:World}{A:Around}{d it v:Addr}{o:Obj}{es:Array DictEntry}{ep:Nat}
end
section
variable {X:Cx}{pins:List (Addr×Obj)}{σ: St}{H:Hp}{s:Shared}{d:Addr}{vs:List V}
end
section
variable {X:Cx}
end
section
variable {X:Cx}{pins:List (Addr×Obj)}{σ: St}{H:Hp}{s:Shared}{A:Around}{E:Value->Shared->Prop}
end
section
variable {X:Cx}{o i e value:Expr}{pos pos' tpos:Pos}{td ty tv:TE}{k:Nat}
end
section
variable {prog:Program}{w:World}{A:Around}{E:Value->Shared->Prop}{s:Shared}{a:Addr}{o:Obj}{es:Array (Int×Value)}{ep:Nat}{t:SetTable}
def aY4 (t:SetTable) (i:Nat):Nat:=match i with
 |0=>0
 |i+1=>t.place.getD i 0+1
end
section
variable {prog:Program}{w:World}{A:Around}{E:Value->Shared->Prop}{s:Shared}{a:Addr}{o:Obj}{es:Array (Int×Value)}{ep:Nat}{t:SetTable}
end
open PySem PySem.Spec PyProof.Rows PySem.W
section
variable {n:Nat}{f:Nat->Nat}
def kk (f:Nat->Nat) (p:Array Nat) (k:Nat):Nat:=f (p.getD k 0)
def Up (f:Nat->Nat) (p:Array Nat) (m:Nat):Prop:=∀ i j,i < j->j < m->kk f p i < kk f p j
def Dn (f:Nat->Nat) (p:Array Nat) (m:Nat):Prop:=∀ i j,i < j->j < m->kk f p j < kk f p i
variable (hf:∀ i j,i < n->j < n->f i=f j->i=j)
include hf
end
open PySem PySem.Spec PyProof.Rows
section
variable {prog:Program}{w:World}{A:Around}{E:Value->Shared->Prop}{s:Shared}{a:Addr}{S:Key->Bool}{n:Nat}{led:Bool}
end
section
variable {prog:Program}{w:World}{A:Around}{R:Result->Shared->Prop}{I:Addr}{fp wr:List Addr}{G:Array GenState->Array GenState->Prop}{n:Nat}{P:Nat->Value->Prop}{St:Nat->Shared->Prop}{led:Bool}
end
section
variable {prog:Program}{w:World}{A:Around}{E:Value->Shared->Prop}{s:Shared}
end
def tb (m:Nat):SetTable:={ SetTable.fresh 0 0 true with mask:=m }
def bs (m:Nat) (h:Int):Nat->Nat×Nat
 |0=>(SetTable.bits h % (m+1),SetTable.bits h)
 |L+1=>SetTable.leap m (bs m h L).1 (bs m h L).2
def lf (m i:Nat):Nat:=(i * 5+1) % (m+1)
section
variable {prog:Program}{w:World}{A:Around}{E:Value->Shared->Prop}{s:Shared}{K:Type} [DecidableEq K] {knd:KeyKind prog w K}
variable (knd) in
end
section
variable {prog:Program}{w:World}{A:Around}{E:Value->Shared->Prop}{s:Shared}{K:Type} [DecidableEq K] {knd:KeyKind prog w K}
end
section
variable {prog:Program}{w:World}{A:Around}{E:Value->Shared->Prop}{s:Shared}{K:Type} [DecidableEq K] {knd:KeyKind prog w K}
end
section
variable {prog:Program}{w:World}{A:Around}{K:Type} [DecidableEq K] {knd:KeyKind prog w K}{I:Addr}{fp wr:List Addr}{G:Array GenState->Array GenState->Prop}{n:Nat}{P:Nat->Value->Prop}{St:Nat->Shared->Prop}{R:Result->Shared->Prop}
variable (knd) in
end
section
variable {prog:Program}{w:World}{A:Around}{E:Value->Shared->Prop}{s:Shared}{K:Type} [DecidableEq K] {knd:KeyKind prog w K}
end
open PySem PySem.Spec PyProof.Rows PySem.W HT
section
variable {prog:Program}{w:World}{A:Around}{E:Value->Shared->Prop}{s:Shared}
end
section
variable {X:Cx}{k:Nat}
end
open PySem PySem.Spec PyProof.Rows
def aQ1 (t:TE):TE:=fun σ H Q=>∃ P:V->Hp->Prop,t σ H P/\∀ v G,P v G->Q v G
theorem kO {X:Cx}{e:Expr}{t:TE}(h:PE X e t):PE X e (aQ1 t):=by
 intro pins s σ H Q I ⟨P,h1,h2⟩;refine bZ (h pins s σ H P I h1) ?_;rintro v s' ⟨x,G,I',r,p⟩;exact ⟨x,G,I',r,h2 x G p⟩
section
variable {X:Cx}
end
section
variable {X:Cx}{pos pos':Pos}{o i value:Expr}{td ty tv:TE}{k:Nat}
end
theorem bB {α: Type}{n:Nat}{us:List α}(h:us.length=n+1):∃ u r,us=u :: r/\r.length=n:=by
 cases us with
 |nil=>cases h
 |cons u r=>exact ⟨u,r,rfl,lq h⟩
section
variable {K:W.Frag}{x qual:Str}{st:Stmt}{f:Addr}{fd:FuncData}{p1 p2 p3 p4 p5:Str}
theorem lO.b1 (F:lO K x qual st f fd) (h:∀ (kV doc pm:Value) (an:Option Addr) (cdv ct u1:Value),bindArgs (W.fnOf x qual (bD st) (aS st) (aI st) .none kV doc pm an cdv ct) ⟨[u1],[]⟩=pure [(p1,u1)]):dO K fd [p1] []:=by
 refine F.binds fun kV doc pm an cdv ct us h0=>?_
 obtain ⟨u1,r1,rfl,h1⟩:=bB (n:=0) h0
 cases cj.mp h1
 exact h kV doc pm an cdv ct u1
theorem lO.b2 (F:lO K x qual st f fd) (h:∀ (kV doc pm:Value) (an:Option Addr) (cdv ct u1 u2:Value),bindArgs (W.fnOf x qual (bD st) (aS st) (aI st) .none kV doc pm an cdv ct) ⟨[u1,u2],[]⟩=pure [(p1,u1),(p2,u2)]):dO K fd [p1,p2] []:=by
 refine F.binds fun kV doc pm an cdv ct us h0=>?_
 obtain ⟨u1,r1,rfl,h1⟩:=bB (n:=1) h0;obtain ⟨u2,r2,rfl,h2⟩:=bB (n:=0) h1
 cases cj.mp h2
 exact h kV doc pm an cdv ct u1 u2
theorem lO.b3 (F:lO K x qual st f fd) (h:∀ (kV doc pm:Value) (an:Option Addr) (cdv ct u1 u2 u3:Value),bindArgs (W.fnOf x qual (bD st) (aS st) (aI st) .none kV doc pm an cdv ct) ⟨[u1,u2,u3],[]⟩=pure [(p1,u1),(p2,u2),(p3,u3)]):dO K fd [p1,p2,p3] []:=by
 refine F.binds fun kV doc pm an cdv ct us h0=>?_
 obtain ⟨u1,r1,rfl,h1⟩:=bB (n:=2) h0;obtain ⟨u2,r2,rfl,h2⟩:=bB (n:=1) h1;obtain ⟨u3,r3,rfl,h3⟩:=bB (n:=0) h2
 cases cj.mp h3
 exact h kV doc pm an cdv ct u1 u2 u3
theorem lO.b4 (F:lO K x qual st f fd) (h:∀ (kV doc pm:Value) (an:Option Addr) (cdv ct u1 u2 u3 u4:Value),bindArgs (W.fnOf x qual (bD st) (aS st) (aI st) .none kV doc pm an cdv ct) ⟨[u1,u2,u3,u4],[]⟩=pure [(p1,u1),(p2,u2),(p3,u3),(p4,u4)]):dO K fd [p1,p2,p3,p4] []:=by
 refine F.binds fun kV doc pm an cdv ct us h0=>?_
 obtain ⟨u1,r1,rfl,h1⟩:=bB (n:=3) h0;obtain ⟨u2,r2,rfl,h2⟩:=bB (n:=2) h1;obtain ⟨u3,r3,rfl,h3⟩:=bB (n:=1) h2;obtain ⟨u4,r4,rfl,h4⟩:=bB (n:=0) h3
 cases cj.mp h4
 exact h kV doc pm an cdv ct u1 u2 u3 u4
theorem lO.b5 (F:lO K x qual st f fd) (h:∀ (kV doc pm:Value) (an:Option Addr) (cdv ct u1 u2 u3 u4 u5:Value),bindArgs (W.fnOf x qual (bD st) (aS st) (aI st) .none kV doc pm an cdv ct) ⟨[u1,u2,u3,u4,u5],[]⟩=pure [(p1,u1),(p2,u2),(p3,u3),(p4,u4),(p5,u5)]):dO K fd [p1,p2,p3,p4,p5] []:=by
 refine F.binds fun kV doc pm an cdv ct us h0=>?_
 obtain ⟨u1,r1,rfl,h1⟩:=bB (n:=4) h0;obtain ⟨u2,r2,rfl,h2⟩:=bB (n:=3) h1;obtain ⟨u3,r3,rfl,h3⟩:=bB (n:=2) h2;obtain ⟨u4,r4,rfl,h4⟩:=bB (n:=1) h3;obtain ⟨u5,r5,rfl,h5⟩:=bB (n:=0) h4
 cases cj.mp h5
 exact h kV doc pm an cdv ct u1 u2 u3 u4 u5
end
section
variable {K:W.Frag}{x qual:Str}{st:Stmt}{f:Addr}{fd:FuncData}{p1 p2 p3 p4 p5 p6:Str}
end
section
variable {P:Program}{w:World}{K:W.Frag}{mg:Str->Option Value}{base:Heap}
def Cl (P:Program) (w:World) (K:W.Frag) (mg:Str->Option Value) (base:Heap) (n:Nat) (sp:Sp) (x:Str):Prop:=∃ f d ps,fU P w K mg base qM n f d ps sp/\dO K d ps []/\W.keepIn K (.ref f)=true/\mg x=some (.ref f)
def eU (P:Program) (w:World) (K:W.Frag) (mg:Str->Option Value) (base:Heap) (x q:Str) (st:Stmt) (n:Nat) (ps:List Str) (sp:Sp):Prop:=∀ {f:Addr}{d:FuncData},lO K x q st f d->fU P w K mg base qM n f d ps sp
theorem gZ {x q:Str}{st:Stmt}{k:Nat}{ps:List Str}{sp:Sp}(N:List Str)
  (hb:∀ {f:Addr}{cdv:Value}{A:Around}{outer:List Env}{s:Shared}{vs:List V}{E:XK}(H:Hp) (Q:VK),N.Nodup->cF k (A.deeper (envOfC q (aI st) s.heap.objs.size f cdv))->sp vs H Q E ->
   ∃ t,kE (dP qM P w K mg base N q (aI st) f cdv A outer s H E).nox (aS st) t/\t { nx:=fun _ H'=>Q .non H',rt:=Q } (dX N vs) H)
  (len:autoParam (∀ vs H Q E,sp vs H Q E->vs.length=ps.length) Rq6._auto_1)
  (S:autoParam (eB N ps (aI st)) Rq5._auto_1):eU P w K mg base x q st (k+1) ps sp :=
 fun F=>F.ok S len fun _ _ _ _ H _ Q _ hr h=>hb H Q S.nd hr h
def pM (K:W.Frag) (x q:Str) (st:Stmt) (f:Addr):Prop:=∃ (oc:Value) (od:Option Addr) (kV dc pm:Value) (an:Option Addr) (cd ct:Value) (sl:Array (Option Value)),K.lookup f=some ⟨oc,od,.func (W.fnOf x q (bD st) (aS st) (aI st) .none kV dc pm an cd ct),sl⟩/\W.codeIn K cd q=true/\W.keepIn K (.ref f)=true
def TopAt (K:W.Frag) (x:Str) (st:Stmt):Prop:=∃ f,W.nsIn K mainGlobals x=some (some (.ref f))/\pM K x x st f
theorem pM.of {x q:Str}{st:Stmt}{f:Addr}{oc:Value}{od:Option Addr}{kV dc pm:Value}{an:Option Addr}{cd ct:Value}{sl:Array (Option Value)}(l:K.lookup f=some ⟨oc,od,.func (W.fnOf x q (bD st) (aS st) (aI st) .none kV dc pm an cd ct),sl⟩) (c:W.codeIn K cd q=true) (k:W.keepIn K (.ref f)=true):pM K x q st f:=⟨_,_,_,_,_,_,_,_,_,l,c,k⟩
theorem TopAt.of {x:Str}{st:Stmt}{f:Addr}{oc:Value}{od:Option Addr}{kV dc pm:Value}{an:Option Addr}{cd ct:Value}{sl:Array (Option Value)}(a:W.nsIn K mainGlobals x=some (some (.ref f))) (l:K.lookup f=some ⟨oc,od,.func (W.fnOf x x (bD st) (aS st) (aI st) .none kV dc pm an cd ct),sl⟩) (c:W.codeIn K cd x=true) (k:W.keepIn K (.ref f)=true):TopAt K x st:=⟨_,a,.of l c k⟩
theorem pM.fn {x q:Str}{st:Stmt}{f:Addr}:pM K x q st f->∃ d,lO K x q st f d
 |⟨_,_,_,_,_,_,_,_,_,l,c,k⟩=>⟨_,qY l c k⟩
structure Zx (P:Program) (w:World) (K:W.Frag) (mg:Str->Option Value) (base:Heap):Prop where
 ns:∀ x u,W.nsIn K mainGlobals x=some (some u)->mg x=some u
 no:∀ x,W.nsIn K mainGlobals x=some none->mg x=none
theorem Zx.of {h:Heap}(X:K.In h) (G:h.Ns mainGlobals mg):Zx P w K mg base:=⟨fun _ _ e=>W.mg_of X G e,fun _ e=>W.mg_none_of X G e⟩
variable {x p1 p2 p3 p4 p5 p6:Str}{st:Stmt}{n:Nat}{sp:Sp}
theorem Zx.cl (Z:Zx P w K mg base) (t:TopAt K x st) {ps:List Str}(ok:eU P w K mg base x x st n ps sp) (b:∀ {f d},lO K x x st f d->dO K d ps []):Cl P w K mg base n sp x :=by
 obtain ⟨_,a,t⟩:=t;obtain ⟨_,F⟩:=t.fn;exact ⟨_,_,_,ok F,b F,F.kp,Z.ns _ _ a⟩
theorem Zx.c1 (Z:Zx P w K mg base) (t:TopAt K x st) (ok:eU P w K mg base x x st n [p1] sp) (h:autoParam (∀ (kV doc pm:Value) (an:Option Addr) (cdv ct u1:Value),bindArgs (W.fnOf x x (bD st) (aS st) (aI st) .none kV doc pm an cdv ct) ⟨[u1],[]⟩=pure [(p1,u1)]) Rq4._auto_1):Cl P w K mg base n sp x:=Z.cl t ok fun F=>F.b1 h
theorem Zx.c2 (Z:Zx P w K mg base) (t:TopAt K x st) (ok:eU P w K mg base x x st n [p1,p2] sp) (h:autoParam (∀ (kV doc pm:Value) (an:Option Addr) (cdv ct u1 u2:Value),bindArgs (W.fnOf x x (bD st) (aS st) (aI st) .none kV doc pm an cdv ct) ⟨[u1,u2],[]⟩=pure [(p1,u1),(p2,u2)]) Rq4._auto_1):Cl P w K mg base n sp x:=Z.cl t ok fun F=>F.b2 h
theorem Zx.c3 (Z:Zx P w K mg base) (t:TopAt K x st) (ok:eU P w K mg base x x st n [p1,p2,p3] sp) (h:autoParam (∀ (kV doc pm:Value) (an:Option Addr) (cdv ct u1 u2 u3:Value),bindArgs (W.fnOf x x (bD st) (aS st) (aI st) .none kV doc pm an cdv ct) ⟨[u1,u2,u3],[]⟩=pure [(p1,u1),(p2,u2),(p3,u3)]) Rq4._auto_1):Cl P w K mg base n sp x:=Z.cl t ok fun F=>F.b3 h
theorem Zx.c4 (Z:Zx P w K mg base) (t:TopAt K x st) (ok:eU P w K mg base x x st n [p1,p2,p3,p4] sp) (h:autoParam (∀ (kV doc pm:Value) (an:Option Addr) (cdv ct u1 u2 u3 u4:Value),bindArgs (W.fnOf x x (bD st) (aS st) (aI st) .none kV doc pm an cdv ct) ⟨[u1,u2,u3,u4],[]⟩=pure [(p1,u1),(p2,u2),(p3,u3),(p4,u4)]) Rq4._auto_1):Cl P w K mg base n sp x:=Z.cl t ok fun F=>F.b4 h
theorem Zx.c5 (Z:Zx P w K mg base) (t:TopAt K x st) (ok:eU P w K mg base x x st n [p1,p2,p3,p4,p5] sp) (h:autoParam (∀ (kV doc pm:Value) (an:Option Addr) (cdv ct u1 u2 u3 u4 u5:Value),bindArgs (W.fnOf x x (bD st) (aS st) (aI st) .none kV doc pm an cdv ct) ⟨[u1,u2,u3,u4,u5],[]⟩=pure [(p1,u1),(p2,u2),(p3,u3),(p4,u4),(p5,u5)]) Rq4._auto_1):Cl P w K mg base n sp x:=Z.cl t ok fun F=>F.b5 h
theorem okn {q:Str}{k:Nat}{ps:List Str}:eU P w K mg base x q st k ps (fun _ _ _ _=>False):=fun _=>⟨fun _ _ _ _ h=>h.elim,fun _ _ _ _ _ _ _ _ _ _ _ _ _ h=>h.elim⟩
end
section
variable {X:Cx}{x:Str}{p pos pos':Pos}{e:Expr}{es:List Expr}{t:TA}{te:TE}
theorem bU {k:Nat}{sp:Sp}(C:Cl X.prog X.w X.K X.mg X.base k sp x) {n:Nat}(hr:cF n X.A) (ha:PA X (e :: es) t) (hn:autoParam (k<=n) Rq7._auto_1) (hg:autoParam (Gl X x) Rq0._auto_1) (hdb:autoParam ((x == ("__debug__": Str))=false) Rq1._auto_1) (he:autoParam (starEach (e :: es) X.env=(false,eval e X.env) :: starEach es X.env) Rq0._auto_1)
  (hpl:autoParam ((backTo pos (starEach es X.env)).any (·.1)=false) Rq0._auto_1):PE X (.Call (.Name x p) (e :: es) [] pos) (rY sp [] E0 t):=by obtain ⟨_,_,_,g,b,k,m⟩:=C;exact oR g (hr.mono hn) hg m k b .nil aA8 ha hdb he hpl
theorem cQ (i:Nat) {rest:List Stmt}{u:TS}(hN:X.N.Nodup) (he:PE X e te) (h2:kE X rest u) (hi:autoParam (X.N[i]?=some x) Rq0._auto_1) (hx:autoParam (zG X.env.scope x) Rq9._auto_1) (hs:autoParam (swapsWith e (some (.Name x pos')) pos.line X.env=pure false) Rq0._auto_1)
  (hf:autoParam (X.fn x=true\/X.env.scope.names.lookup x=some .local) Rq2._auto_1):kE X (.Assign [.Name x pos'] e pos :: rest) (aF4 (vB te (mB i)) u):=aF (rK hN hi hx he hs hf) h2
theorem kC (i:Nat) (hN:X.N.Nodup) (he:PE X e te) (hi:autoParam (X.N[i]?=some x) Rq0._auto_1) (hx:autoParam (zG X.env.scope x) Rq9._auto_1) (hs:autoParam (swapsWith e (some (.Name x pos')) pos.line X.env=pure false) Rq0._auto_1)
  (hf:autoParam (X.fn x=true\/X.env.scope.names.lookup x=some .local) Rq2._auto_1):PS X (.Assign [.Name x pos'] e pos) (vB te (mB i)):=rK hN hi hx he hs hf
theorem eX (i:Nat) (hN:X.N.Nodup:=by dsimp only [bM];decide +kernel) (hi:autoParam (X.N[i]?=some x) Rq0._auto_1) (hx:autoParam (zG X.env.scope x) Rq9._auto_1) (hf:autoParam (X.fn x=true\/X.env.scope.names.lookup x=some .local) Rq2._auto_1):PG X (.Name x pos) (mB i):=zI hN hi hx hf
theorem nJ {tg iter:Expr}{body:List Stmt}{wi:TI}{g:TG}{tb:TS}(hi:PI X tg iter wi) (hg:PG X tg g) (hb:kE X body tb) (hp:PassesOwn (model X.prog X.w) X.A X.env X.xe:=by exact gp) (hc:autoParam (X.calm=true) Rq0._auto_1)
  (hs:autoParam (∀ x,foldedSetIterable iter X.env x=pure x) Rq3._auto_1):PS X (.For tg iter body [] pos) (aN4 wi g tb):=aJ5 hp hc hi hg hb hs
variable {id T:String}{r:List V->Hp->VK->Prop}
theorem lY (hc:gL X (.builtin id) r) (hm:X.mg x=none) (hv:bootBuiltins x=some (.builtin id)) (ha:PA X (e :: es) t) (hg:autoParam (Gl X x) Rq0._auto_1) (hn:autoParam (x≠"__name__") Rq1._auto_1) (hdb:autoParam ((x == ("__debug__": Str))=false) Rq1._auto_1)
  (he:autoParam (starEach (e :: es) X.env=(false,eval e X.env) :: starEach es X.env) Rq0._auto_1) (hpl:autoParam ((backTo pos (starEach es X.env)).any (·.1)=false) Rq0._auto_1):PE X (.Call (.Name x p) (e :: es) [] pos) (tCB r t):=wY hc hg hm hv ha hn hdb he hpl
theorem uS (hc:gL X (.type T) r) (hm:X.mg x=none) (hv:bootBuiltins x=some (.type T)) (ha:PA X (e :: es) t) (hg:autoParam (Gl X x) Rq0._auto_1) (hn:autoParam (x≠"__name__") Rq1._auto_1) (hdb:autoParam ((x == ("__debug__": Str))=false) Rq1._auto_1)
  (he:autoParam (starEach (e :: es) X.env=(false,eval e X.env) :: starEach es X.env) Rq0._auto_1) (hpl:autoParam ((backTo pos (starEach es X.env)).any (·.1)=false) Rq0._auto_1):PE X (.Call (.Name x p) (e :: es) [] pos) (tCB r t):=uQ hc hg hm hv ha hn hdb he hpl
variable {a b:Expr}{ta tb:TE}
theorem cU {r:R2}(hr:IxR X r) (ha:PE X a ta) (hb:PE X b tb) (hs:autoParam (sU b) Rq10._auto_1):PE X (.Subscript a b pos) (tOp r ta tb):=aT7 hr ha hb hs
theorem dF {op:CmpOp}{r:R2}(ho:gD X (compareOp op) r) (ha:PE X a ta) (hb:PE X b tb) (hm:autoParam (behindInMarks op b=false) Rq11._auto_1):PT X (.Compare a [op] [b] pos) (aB9 (tOp r ta tb)):=aA0 ho ha hb hm
theorem pec {op:CmpOp}{r:R2}(ho:gD X (compareOp op) r) (ha:PE X a ta) (hb:PE X b tb) (hm:autoParam (behindInMarks op b=false) Rq11._auto_1):PE X (.Compare a [op] [b] pos) (tOp r ta tb):=zW ho ha hb hm
theorem nC (hu:X.A.units+1 < cLine) (ho:PE X a ta) (hi:PE X b tb) (hs:autoParam (aJ2 b) Rq10._auto_1):PE X (.Subscript a b pos) (aC4 ta tb):=zP hu ho hi hs
theorem pdp {tv:TE}(hu:X.A.units+1 < cLine) (ho:PE X a ta) (hi:PE X b tb) (hv:PE X e tv) (hs:autoParam (swapsWith e (some (.Subscript a b pos')) pos.line X.env=pure false) Rq0._auto_1):PS X (.Assign [.Subscript a b pos'] e pos) (aA4 ta tb tv):=yL hu ho hi hv hs
theorem aM (ha:PE X a ta) (h:autoParam (starEach [a] X.env=[(false,eval a X.env)]) Rq0._auto_1):PA X [a] (aC1 ta tNil):=aA ha cA h
theorem pgl {v:Addr}(hm:X.mg x=some (.ref v)) (hg:autoParam (Gl X x) Rq0._auto_1) (hd:autoParam ((x == ("__debug__": Str))=false) Rq1._auto_1):PE X (.Name x pos) (tC (.ref v)):=zH hg hm rfl hd
end
end L2
namespace Mine
open PySem L2
def cB (S:List Addr) (H H':Hp):Prop:=∀ b o,H b=some o->b∉S->H' b=some o
theorem cB.refl {S:List Addr}(H:Hp):cB S H H:=fun _ _ e _=>e
theorem cB.trans {S:List Addr}{H H1 H2:Hp}(a:cB S H H1) (b:cB S H1 H2):cB S H H2:=fun c o e h=>b c o (a c o e h) h
theorem cB.of {S:List Addr}{H H':Hp}(s:aY H H'):cB S H H':=fun c o e _=>s c o e
theorem cB.up {S:List Addr}{H H1:Hp}{p:Addr}{o:HO}(a:cB S H H1) (h:p∈S):cB S H (aN H1 p o):=fun b u e n=>by
 rw [aH fun z=>n (by rw [z];exact h)];exact a b u e n
mutual
def mC:Rw->List (List RKey)
 |.thr _ x T _ wss=>[aX1 x T wss]
 |.lt _ _ _=>[]
 |.tell _ _=>[]
 |.when _ _ _ _ a b=>dY a++dY b
 |.times _ _ _ b=>dY b
def dY:List Rw->List (List RKey)
 |[]=>[]
 |r :: rs=>mC r++dY rs
end
theorem mL:∀ (rs qs:List Rw),dY (rs++qs)=dY rs++dY qs
 |[],qs=>rfl
 |r :: rs,qs=>by simp only [List.cons_append,dY,mL rs qs,List.append_assoc]
theorem gG {β: Type} [DecidableEq β]:∀ {l m:List β},l.Nodup->(∀ x∈l,x∈m)->l.length<=m.length
 |[],m,_,_=>bh _
 |x :: r,m,nd,hs=>by
  have hx:=hs x bg;have nd:=im.mp nd;have ih:=gG (m:=m.erase x) nd.2 fun y hy=>(List.mem_erase_of_ne fun e=>nd.1 (by rw [<- e];exact hy)).mpr (hs y (aq _ hy))
  rw [List.length_erase_of_mem hx] at ih;have:=List.length_pos_of_mem hx;rw [ef];omega
def iB:List Str:=["ladder","flat","choose","first"]
theorem aJ9:∀ T:eO,oU (.str T.wd) (iB.map V.str)=true
 |.lad .. =>by show oU (.str "ladder") _=true;decide +kernel
 |.fla .. =>by show oU (.str "flat") _=true;decide +kernel
 |.cho .. =>by show oU (.str "choose") _=true;decide +kernel
 |.fst .. =>by show oU (.str "first") _=true;decide +kernel
theorem dM:∀ xs:List Str,(xs.map V.str).all iH=true
 |[]=>rfl
 |x :: xs=>by rw [df,ki,dM xs];rfl
section
variable {C:Addr}{NM:List Str}{H H1:Hp}{X kd tl:Addr}{ks:List Str}{rs:List Rw}{e:Ev}{td:List Int}{sh:Int×Int}
end
end Mine
namespace HT
open PySem PySem.Spec PyProof.Rows L2
section
variable {prog:Program}{w:World}{A:Around}{E:Value->Shared->Prop}{s:Shared}
end
end HT
namespace L2
open PySem PySem.Spec PyProof.Rows
end L2
namespace Mine
open PySem L2
end Mine
namespace L2
open PySem PySem.Spec PyProof.Rows
end L2
namespace Mine
open PySem L2
section
variable {P:Program}{w:World}{C:Addr}{NM:List Str}{KS:List (List RKey)}{cs:List Int}{M:Int}{TOT:List Lf}{H G G':Hp}{tb el wl:Addr}{E X:List Lf}{nX:Nat}{us:List V}{hs gs:List Hn}{rns:List Rn}{l:List (List RKey×V)}{g:Hn}{r:Rn}
end
structure eN (H:Hp) (p l:Addr) (sd n:Int) (ls:List Int):Prop where
 pc:H p=some (.lst [.int sd,.int n,.ref l])
 lc:H l=some (.lst (ls.map V.int))
 ne:p≠l
 s0:0<=sd
 s1:sd < 2147483647
 n0:0<=n
 l0:∀ x∈ls,0<=x
def fZ (H:Hp) (p l:Addr):Prop:=∃ sd n ls,eN H p l sd n ls
theorem eN.seed {H:Hp}{p l:Addr}{sd n:Int}{ls:List Int}(D:eN H p l sd n ls) {v:Int}(h0:0<=v) (h1:v < 2147483647):eN (aN H p (.lst [.int v,.int n,.ref l])) p l v n ls :=
 ⟨aD,by rw [aH D.ne.symm];exact D.lc,D.ne,h0,h1,D.n0,D.l0⟩
theorem eN.number {H:Hp}{p l:Addr}{sd n:Int}{ls:List Int}(D:eN H p l sd n ls) {v:Int}(h0:0<=v):eN (aN H p (.lst [.int sd,.int v,.ref l])) p l sd v ls :=
 ⟨aD,by rw [aH D.ne.symm];exact D.lc,D.ne,D.s0,D.s1,h0,D.l0⟩
theorem eN.left {H:Hp}{p l:Addr}{sd n:Int}{ls ls':List Int}(D:eN H p l sd n ls) (h:∀ x∈ls',0<=x):eN (aN H l (.lst (ls'.map V.int))) p l sd n ls' :=
 ⟨by rw [aH D.ne];exact D.pc,aD,D.ne,D.s0,D.s1,D.n0,h⟩
theorem eN.out {H H':Hp}{p l:Addr}{sd n:Int}{ls:List Int}(D:eN H p l sd n ls) (s:aY H H'):eN H' p l sd n ls:=⟨s _ _ D.pc,s _ _ D.lc,D.ne,D.s0,D.s1,D.n0,D.l0⟩
theorem fZ.same {H H':Hp}{p l:Addr}(D:fZ H p l) (s:aY H H'):fZ H' p l:=by obtain ⟨sd,n,ls,q⟩:=D;exact ⟨sd,n,ls,q.out s⟩
theorem fZ.ts {H H':Hp}{p l:Addr}(D:fZ H p l) (o:Out p l H H'):TS H H':=fun a xs e=>by
 obtain ⟨sd,n,ls,q⟩:=D;exact o a _ e (iW e q.pc (by intro z;cases z)) (iW e q.lc (by intro z;cases z))
theorem dC {H:Hp}{p l r:Addr}(D:fZ H p l) (h:H r=none):r≠p/\r≠l:=by
 obtain ⟨sd,n,ls,q⟩:=D;exact ⟨(aK q.pc h).symm,(aK q.lc h).symm⟩
theorem oM {H:Hp}{p l a:Addr}{ys:List V}(D:fZ H p l) (n1:a≠p) (n2:a≠l):fZ (aN H a (.lst ys)) p l:=by
 obtain ⟨sd,n,ls,q⟩:=D;exact ⟨sd,n,ls,(aH n1.symm).trans q.pc,(aH n2.symm).trans q.lc,q.ne,q.s0,q.s1,q.n0,q.l0⟩
theorem cG {H H':Hp}{p l a:Addr}{o:HO}(h:H a=some o) (n1:a≠p) (n2:a≠l) (u:Out p l H H'):H' a=some o:=u a o h n1 n2
theorem jP {H H2:Hp}{p l a:Addr}(D2:fZ H2 p l) (o:Out p l H H2) (h:H2 a=none):H a=none:=by
 obtain ⟨n1,n2⟩:=dC D2 h
 cases e:H a with
 |none=>rfl
 |some u=>rw [o a u e n1 n2] at h;cases h
def spDrawP:Sp:=fun vs H Q _=>∃ (p l:Addr) (m:Int),vs=[.ref p,.int m]/\fZ H p l/\0 < m/\m < 2 ^ 64 /\
 ∀ (r:Int) (H':Hp),0<=r->r < m->fZ H' p l->Out p l H H'->Q (.int r) H'
def spSumP:Sp:=fun vs H Q _=>∃ p l k,vs=[.ref p,.int k]/\fZ H p l/\1<=k/\k<=3/\∀ r ws H',lF H' r ws->ws.length=k.toNat->(∀ x∈ws,0<=x/\x<=3)->fZ H' p l->Out p l H H'->Q (.ref r) H'
theorem aV1 {r:Int}(h0:0<=r) (h1:r < 3):∃ v:Int,jH [V.int 2,V.int 2,V.int 4] r=some (.int v)/\2<=v/\v<=4:=by
 have:r=0\/r=1\/r=2:=by omega
 rcases this with rfl | rfl | rfl
 ·exact ⟨2,rfl,by decide,by decide⟩
 ·exact ⟨2,rfl,by decide,by decide⟩
 ·exact ⟨4,rfl,by decide,by decide⟩
def spSteepP:Sp:=fun vs H Q _=>∃ (p l:Addr) (t:Int),vs=[.ref p,.int t]/\fZ H p l/\∀ (r:Addr) (a b:Int) (H':Hp),gI H' r a b->iG a b->(t=2->2 * a<=b)->fZ H' p l->Out p l H H'->Q (.ref r) H'
theorem uJ {a b k:Int}(k2:2<=k) (ha:a % k=0) (hb:b % k=0) (h:iG a b):iG (a / k) (b / k)/\a / k < a/\(2 * a<=b->2 * (a / k)<=b / k):=by
 have ea:=nv a k;have eb:=nv b k;rw [ha,Int.add_zero] at ea;rw [hb,Int.add_zero] at eb;generalize a / k=x at ea ⊢;generalize b / k=y at eb ⊢;have h1:=h.p1;have h2:=h.pq;have h3:=h.q9;rw [<- ea] at h1 h2;rw [<- eb] at h2 h3;have kp:0 < k:=by omega
 have x1:0 < x:=Int.pos_of_mul_pos_right (a:=k) (by omega) kp |> fun z=>z
 have xy:x < y:=Int.lt_of_mul_lt_mul_left h2 (by omega);have yk:2 * y<=k * y:=jp k2 (by omega);have xk:2 * x<=k * x:=jp k2 (by omega);refine ⟨⟨by omega,xy,by omega⟩,by rw [<- ea];omega,fun z=>?_⟩;rw [<- ea, <- eb] at z;have z:k * (2 * x)<=k * y:=by rw [Int.mul_left_comm];exact z
 exact Int.le_of_mul_le_mul_left z kp
def spAgain:Sp:=fun vs H Q _=>∃ (a:Nat) (n:Nat),vs=[.int a,.int n]/\a<=40/\n<=40/\∀ H',aY H H'->Q (.int ((a ^ n:Nat):Int)) H'
def eR (kn rw ag rn hg:Int) (nl:Addr):List (Key×V):=[(.inr "kinds",.int kn),(.inr "rows",.int rw),(.inr "again",.int ag),(.inr "runs",.int rn),(.inr "high",.int hg),(.inr "names",.ref nl)]
section
variable {kn rw ag rn hg:Int}{nl:Addr}
theorem aL0:¬ ((Sum.inr "kinds": Key)=(Sum.inr "rows": Key)):=fun z=>absurd (dg z) (by decide +kernel)
theorem aH4:¬ ((Sum.inr "kinds": Key)=(Sum.inr "again": Key)):=fun z=>absurd (dg z) (by decide +kernel)
theorem aL9:¬ ((Sum.inr "kinds": Key)=(Sum.inr "runs": Key)):=fun z=>absurd (dg z) (by decide +kernel)
theorem aP9:¬ ((Sum.inr "kinds": Key)=(Sum.inr "high": Key)):=fun z=>absurd (dg z) (by decide +kernel)
theorem aO4:¬ ((Sum.inr "kinds": Key)=(Sum.inr "names": Key)):=fun z=>absurd (dg z) (by decide +kernel)
theorem aA1:¬ ((Sum.inr "rows": Key)=(Sum.inr "again": Key)):=fun z=>absurd (dg z) (by decide +kernel)
theorem yG:¬ ((Sum.inr "rows": Key)=(Sum.inr "runs": Key)):=fun z=>absurd (dg z) (by decide +kernel)
theorem aJ7:¬ ((Sum.inr "rows": Key)=(Sum.inr "high": Key)):=fun z=>absurd (dg z) (by decide +kernel)
theorem aL2:¬ ((Sum.inr "rows": Key)=(Sum.inr "names": Key)):=fun z=>absurd (dg z) (by decide +kernel)
theorem zJ:¬ ((Sum.inr "again": Key)=(Sum.inr "runs": Key)):=fun z=>absurd (dg z) (by decide +kernel)
theorem aK3:¬ ((Sum.inr "again": Key)=(Sum.inr "high": Key)):=fun z=>absurd (dg z) (by decide +kernel)
theorem aJ3:¬ ((Sum.inr "again": Key)=(Sum.inr "names": Key)):=fun z=>absurd (dg z) (by decide +kernel)
theorem aH8:¬ ((Sum.inr "runs": Key)=(Sum.inr "high": Key)):=fun z=>absurd (dg z) (by decide +kernel)
theorem aL8:¬ ((Sum.inr "runs": Key)=(Sum.inr "names": Key)):=fun z=>absurd (dg z) (by decide +kernel)
theorem aU3:¬ ((Sum.inr "high": Key)=(Sum.inr "names": Key)):=fun z=>absurd (dg z) (by decide +kernel)
theorem wP:fY (eR kn rw ag rn hg nl) (Sum.inr "kinds": Key)=some (.int kn):=by
 unfold eR;rw [cY rfl]
theorem sK:fY (eR kn rw ag rn hg nl) (Sum.inr "rows": Key)=some (.int rw):=by
 unfold eR;rw [aP aL0,cY rfl]
theorem kX:fY (eR kn rw ag rn hg nl) (Sum.inr "again": Key)=some (.int ag):=by
 unfold eR;rw [aP aH4,aP aA1,cY rfl]
theorem nI:fY (eR kn rw ag rn hg nl) (Sum.inr "runs": Key)=some (.int rn):=by
 unfold eR;rw [aP aL9,aP yG,aP zJ,cY rfl]
theorem rX:fY (eR kn rw ag rn hg nl) (Sum.inr "high": Key)=some (.int hg):=by
 unfold eR;rw [aP aP9,aP aJ7,aP aK3,aP aH8,cY rfl]
theorem xO:fY (eR kn rw ag rn hg nl) (Sum.inr "names": Key)=some (.ref nl):=by
 unfold eR;rw [aP aO4,aP aL2,aP aJ3,aP aL8,aP aU3,cY rfl]
theorem zS {y:Int}:cZ (eR kn rw ag rn hg nl) (Sum.inr "rows": Key) (.int y)=eR kn y ag rn hg nl:=by
 unfold cZ;rw [bj (by rw [fM,sK];rfl)];unfold eR;simp only [List.map_cons,List.map_nil];rw [ar aL0,bj trivial,ar (fun z=>aA1 z.symm),ar (fun z=>yG z.symm),ar (fun z=>aJ7 z.symm),ar (fun z=>aL2 z.symm)]
theorem vO {y:Int}:cZ (eR kn rw ag rn hg nl) (Sum.inr "again": Key) (.int y)=eR kn rw y rn hg nl:=by
 unfold cZ;rw [bj (by rw [fM,kX];rfl)];unfold eR;simp only [List.map_cons,List.map_nil];rw [ar aH4,ar aA1,bj trivial,ar (fun z=>zJ z.symm),ar (fun z=>aK3 z.symm),ar (fun z=>aJ3 z.symm)]
theorem zB {y:Int}:cZ (eR kn rw ag rn hg nl) (Sum.inr "runs": Key) (.int y)=eR kn rw ag y hg nl:=by
 unfold cZ;rw [bj (by rw [fM,nI];rfl)];unfold eR;simp only [List.map_cons,List.map_nil];rw [ar aL9,ar yG,ar zJ,bj trivial,ar (fun z=>aH8 z.symm),ar (fun z=>aL8 z.symm)]
end
def spFew:Sp:=fun vs H Q _=>∃ (sc nl:Addr) (kn rw rn hg:Int) (n:Nat),vs=[.ref sc]/\H sc=some (.dK (eR kn rw n rn hg nl))/\n<=27/\1<=rn/\rn<=60/\∀ (m:Nat) (H':Hp),aY H H'->1<=m->m<=6->((m ^ n:Nat):Int)<=rn->Q (.int m) H'
def spBnd:Sp:=fun vs H Q _=>∃ (p l sc nl:Addr) (hg kn rw ag rn m:Int),vs=[.ref p,.ref sc,.int m]/\fZ H p l/\H sc=some (.dK (eR kn rw ag rn hg nl))/\2<=hg/\hg<=9/\1<=m/\m<=1000/\∀ (r:Addr) (lo hi:Int) (H':Hp),gI H' r lo hi->0<=lo->hi<=hg->hi=lo+(if hg+1 < m then hg+1 else m) - 1->fZ H' p l->Out p l H H'->Q (.ref r) H'
theorem Out.new {p l a:Addr}{H G:Hp}{o:HO}(u:Out p l H G) (h:H a=none):Out p l H (aN G a o):=fun b v e n1 n2=>by
 rw [aH (aK e h)];exact u b v e n1 n2
theorem gO (w:Str) (xs:List Str):oU (.str w) (xs.map V.str)=decide (w∈xs):=by
 unfold oU;rw [List.any_map]
 induction xs with
 |nil=>rfl
 |cons x r ih =>
  rw [gl,ih];have e:(yE (V.str x) (V.str w))=decide (x=w):=rfl;show (yE (V.str x) (V.str w) || _)=_;rw [e]
  by_cases c:x=w
  ·simp [c]
  ·have c2:¬ w=x:=fun z=>c z.symm
   simp [c,c2]
theorem kP {xs:List Str}{i:Nat}{v:V}(h:(xs.map V.str)[i]?=some v):∃ x,v= .str x/\xs[i]?=some x:=by
 rw [fe] at h
 cases e:xs[i]? with
 |none=>rw [e] at h;cases h
 |some r=>rw [e] at h;exact ⟨r,(ci h).symm,rfl⟩
theorem jV {r x y z:Int}(h0:0<=r) (h1:r < 3):∃ w,jH [V.int x,V.int y,V.int z] r=some (.int w)/\(w=x\/w=y\/w=z):=by
 have:r=0\/r=1\/r=2:=by omega
 rcases this with rfl | rfl | rfl
 ·exact ⟨x,rfl,.inl rfl⟩
 ·exact ⟨y,rfl,.inr (.inl rfl)⟩
 ·exact ⟨z,rfl,.inr (.inr rfl)⟩
theorem aH1 {r:Int}(h0:0<=r) (h1:r < 5):∃ c,jH ("+-*<=": Str).cps.toList r=some c/\(⟨#[c]⟩:Str)∈aP1:=by
 have:r=0\/r=1\/r=2\/r=3\/r=4:=by omega
 rcases this with rfl | rfl | rfl | rfl | rfl
 ·exact ⟨43,rfl,by decide +kernel⟩
 ·exact ⟨45,rfl,by decide +kernel⟩
 ·exact ⟨42,rfl,by decide +kernel⟩
 ·exact ⟨60,rfl,by decide +kernel⟩
 ·exact ⟨61,rfl,by decide +kernel⟩
theorem qZ {α: Type}{xs:List α}{r:Int}(h0:0<=r) (h1:r < (xs.length:Int)):∃ v,xs[r.toNat]?=some v/\jH xs r=some v:=by
 have hk:r.toNat < xs.length:=by omega
 refine ⟨_,bp hk,?_⟩;have q:=oO (bp hk);rw [oy h0] at q;exact q
mutual
def kW:Rw->Nat
 |.when _ _ _ _ a b=>1+max (eM a) (eM b)
 |.times _ _ _ b=>1+eM b
 |.thr _ _ _ _ _=>0
 |.lt _ _ _=>0
 |.tell _ _=>0
def eM:List Rw->Nat
 |[]=>0
 |r :: rs=>max (kW r) (eM rs)
end
theorem pY:∀ (rs qs:List Rw),eM (rs++qs)=max (eM rs) (eM qs)
 |[],qs=>by simp [eM]
 |r :: rs,qs=>by simp only [List.cons_append,eM,pY rs qs];omega
structure fQ (xs ns ns':List Str) (kn:Int) (rw rw' ag rn rn':Nat) (rs:List Rw) (told m:Nat):Prop where
 ok:∀ cs:List Int,(cs.length:Int)=kn->tL xs cs rs
 kn:uR rs ns
 out:jL ns' (kI rs ns)
 tel:hZ rs<=told
 key:(dY rs).length+rw'<=rw
 run:wL rs ^ ag * rn'<=rn
 up:jL ns ns'
 dep:eM rs<=m
 cost:cR rs+3 ^ m * rw'<=3 ^ m * (rw+told)
section
variable {xs ns ns1 ns2:List Str}{kn:Int}{rw rw1 rw2 ag rn rn1 rn2:Nat}{rs qs:List Rw}{t t' m:Nat}
theorem fQ.nil:fQ xs ns ns kn rw rw ag rn rn [] 0 m:=⟨fun _ _=>trivial,trivial,fun _ h=>h,ae _,by simp [dY],by simp [wL],fun _ h=>h,bh _,by simp [cR]⟩
theorem fQ.app (a:fQ xs ns ns1 kn rw rw1 ag rn rn1 rs t m) (b:fQ xs ns1 ns2 kn rw1 rw2 ag rn1 rn2 qs t' m):fQ xs ns ns2 kn rw rw2 ag rn rn2 (rs++qs) (t+t') m:=by
 refine ⟨fun cs h=>(a.ok cs h).app (b.ok cs h),sM a.kn (gQ _ a.out b.kn),fun y hy=>?_,?_,?_,?_,fun y hy=>b.up y (a.up y hy),?_,?_⟩
 ·rw [oX];exact fL _ a.out y (b.out y hy)
 ·rw [pA];have:=a.tel;have:=b.tel;omega
 ·rw [mL,ap];have:=a.key;have:=b.key;omega
 ·rw [vN,Nat.mul_pow,ot];exact aj (cv (ae _) b.run) a.run
 ·rw [pY];exact Nat.max_le.mpr ⟨a.dep,b.dep⟩
 ·have c1:=a.cost;have c2:=b.cost;rw [mS];rw [jy] at c1 c2 ⊢;rw [jy];omega
theorem rJ {P k cb rw1 D t:Nat}(k3:k<=3) (h:cb<=P * D+P * t) (p1:1<=P):1+k * cb+P * 3 * rw1<=P * 3 * (rw1+D+1+k * t):=by
 have c3:=cv (ae k) h;rw [jy] at c3;have c4:k * (P * D)<=3 * (P * D):=cv k3 (ae _);have e:P * 3 * (rw1+D+1+k * t)=3 * (P * rw1)+3 * (P * D)+3 * P+3 * (k * (P * t)):=by grind
 have e2:P * 3 * rw1=3 * (P * rw1):=by grind
 rw [e,e2];omega
theorem yX (m:Nat):1<=3 ^ m:=qx (by decide)
theorem pF {m rw rw':Nat}(h:rw' + 1<=rw):1+3 ^ m * rw'<=3 ^ m * (rw+0):=by
 have:=cv (ae (3 ^ m)) h;rw [jy,Nat.mul_one] at this;have:=yX m;rw [Nat.add_zero];omega
theorem kT {r:Rw}:wL [r]=wR r:=by simp only [wL];omega
theorem fQ.lt {p:Addr}{x:Str}{u:Tm}{ns':List Str}(ok:u.ok) (sz:u.size<=12) (nm:∀ y∈u.names,y∈ns) (hx:x∈xs) (h':jL ns' (x :: ns)) (up:jL ns ns') (hr:rw' + 1<=rw):fQ xs ns ns' kn rw rw' ag rn rn [.lt p x u] 0 m :=
 ⟨fun _ _=>⟨⟨⟨ok,by omega⟩,hx⟩,trivial⟩,⟨nm,trivial⟩,h',by simp [hZ,uK],by simp only [dY,mC,List.append_nil,List.length_nil];omega,by rw [kT];simp [wR],up,by simp [eM,kW],by simp only [cR,Rw.cost];exact pF hr⟩
theorem fQ.tell {p:Addr}{u:Tm}(ok:u.ok) (sz:u.size<=12) (nm:∀ y∈u.names,y∈ns):fQ xs ns ns kn rw rw ag rn rn [.tell p u] 1 m :=
 ⟨fun _ _=>⟨⟨ok,by omega⟩,trivial⟩,⟨nm,trivial⟩,fun _ h=>h,by simp [hZ,uK],by simp [dY,mC],by rw [kT];simp [wR],fun _ h=>h,by simp [eM,kW],by simp only [cR,Rw.cost];rw [jy];have:=yX m;omega⟩
theorem fQ.thr {p:Addr}{x:Str}{T:eO}{a3:V}{wss:List (List Int)}{ns':List Str}(ok:T.Ok) (ak:∀ cs:List Int,(cs.length:Int)=kn->yN T wss cs) (hx:x∈xs) (h':jL ns' (x :: ns)) (up:jL ns ns') (hr:rw' + 1<=rw) (hw:szT T wss ^ ag * rn1<=rn):fQ xs ns ns' kn rw rw' ag rn rn1 [.thr p x T a3 wss] 0 m :=
 ⟨fun cs h=>⟨⟨⟨ok,ak cs h⟩,hx⟩,trivial⟩,⟨trivial,trivial⟩,h',by simp [hZ,uK],by simp only [dY,mC,List.append_nil,List.length_singleton];omega,by rw [kT];exact hw,up,by simp [eM,kW],by simp only [cR,Rw.cost];exact pF hr⟩
theorem fQ.when {p pa pb:Addr}{u:Tm}{a b:List Rw}{na nb ns':List Str}(ok:u.ok) (sz:u.size<=12) (nm:∀ y∈u.names,y∈ns) (da:fQ xs ns na kn rw rw1 ag rn rn1 a t m) (db:fQ xs ns nb kn rw1 rw2 ag rn1 rn2 b t m) (h':∀ y∈ns',y∈na/\y∈nb) (up:jL ns ns'):fQ xs ns ns' kn (rw+1) rw2 ag rn rn2 [.when p pa pb u a b] t (m+1):=by
 refine ⟨fun cs h=>⟨⟨⟨ok,by omega⟩,da.ok cs h,db.ok cs h⟩,trivial⟩,⟨⟨nm,da.kn,db.kn⟩,trivial⟩,fun y hy=>de.mpr ⟨da.out y (h' y hy).1,ah (db.out y (h' y hy).2)⟩,?_,?_,?_,up,?_,?_⟩
 ·simp only [hZ,uK];have:=da.tel;have:=db.tel;omega
 ·simp only [dY,mC,List.append_nil,List.length_append];have:=da.key;have:=db.key;omega
 ·rw [kT];show (wL a * wL b) ^ ag * rn2<=rn;rw [Nat.mul_pow,ot];exact aj (cv (ae _) db.run) da.run
 ·simp only [eM,kW];have:=da.dep;have:=db.dep;omega
 ·have c1:=da.cost;have c2:=db.cost;have k1:=da.key;have k2:=db.key;simp only [cR,Rw.cost,Nat.pow_succ];have h2:=cv (ae (3 ^ m)) (show rw2<=rw by omega);have:=yX m;simp only [Nat.mul_add,Nat.mul_one] at c1 c2 ⊢;rw [kc (3 ^ m) 3 rw2,kc (3 ^ m) 3 rw,kc (3 ^ m) 3 t];omega
theorem fQ.times {p pb:Addr}{k:Nat}{b:List Rw}(k1:1<=k) (k3:k<=3) (d:fQ xs ns ns1 kn rw rw1 (ag * k) rn rn1 b t m):fQ xs ns ns1 kn (rw+1) rw1 ag rn rn1 [.times p pb k b] (k * t) (m+1):=by
 refine ⟨fun cs h=>⟨d.ok cs h,trivial⟩,⟨⟨⟨k1,by omega⟩,d.kn⟩,trivial⟩,d.out,?_,?_,?_,d.up,?_,?_⟩
 ·simp only [hZ,uK];exact cv (ae _) d.tel
 ·simp only [dY,mC,List.append_nil];have:=d.key;omega
 ·rw [kT];show (wL b ^ k) ^ ag * rn1<=rn;rw [<- Nat.pow_mul,qe k];exact d.run
 ·simp only [eM,kW];have:=d.dep;omega
 ·have c1:=d.cost;have k1:=d.key;simp only [cR,Rw.cost,Nat.pow_succ];obtain ⟨D,rfl⟩:∃ D,rw=rw1+D:=⟨rw - rw1,by omega⟩
  have c2:cR b<=3 ^ m * D+3 ^ m * t:=by
   simp only [Nat.mul_add] at c1;omega
  have c5:=rJ (rw1:=rw1) k3 c2 (yX m);simp only [Nat.add_assoc] at c5 ⊢;omega
theorem fQ.less (d:fQ xs ns ns1 kn rw rw1 ag rn rn1 rs t m) (h:t<=t'):fQ xs ns ns1 kn rw rw1 ag rn rn1 rs t' m:=⟨d.ok,d.kn,d.out,aj d.tel h,d.key,d.run,d.up,d.dep,aj d.cost (cv (ae _) (by omega))⟩
end
structure Sc (H:Hp) (p l sc nl nh:Addr) (hg kn:Int) (rw ag rn:Nat) (xs ns:List Str):Prop where
 pot:fZ H p l
 sc:H sc=some (.dK (eR kn rw ag rn hg nl))
 nm:H nl=some (.lst (xs.map V.str))
 hn:H nh=some (.lst (ns.map V.str))
 n1:nl≠p
 n2:nl≠l
 n3:nh≠p
 n4:nh≠l
 n5:nh≠nl
 k1:1<=kn
 k3:kn<=3
 x3:xs.length=3
 r1:1<=rn
 r2:rn<=60
 a1:1<=ag
 a2:ag<=27
 w1:rw<=4
 nd:ns.Nodup
 sb:jL ns xs
 h2:2<=hg
 h9:hg<=9
section
variable {H H':Hp}{p l sc nl nh:Addr}{hg kn:Int}{rw ag rn:Nat}{xs ns:List Str}
theorem Sc.ns3 (S:Sc H p l sc nl nh hg kn rw ag rn xs ns):ns.length<=3:=by have:=gG S.nd S.sb;have:=S.x3;omega
theorem Sc.scp (S:Sc H p l sc nl nh hg kn rw ag rn xs ns):sc≠p/\sc≠l:=by
 obtain ⟨a,b,c,q⟩:=S.pot;exact ⟨iW S.sc q.pc (by intro z;cases z),iW S.sc q.lc (by intro z;cases z)⟩
theorem Sc.scn (S:Sc H p l sc nl nh hg kn rw ag rn xs ns):sc≠nl/\sc≠nh:=⟨iW S.sc S.nm (by intro z;cases z),iW S.sc S.hn (by intro z;cases z)⟩
theorem Sc.out (S:Sc H p l sc nl nh hg kn rw ag rn xs ns) (P:fZ H' p l) (o:Out p l H H'):Sc H' p l sc nl nh hg kn rw ag rn xs ns :=
 ⟨P,o _ _ S.sc S.scp.1 S.scp.2,o _ _ S.nm S.n1 S.n2,o _ _ S.hn S.n3 S.n4,S.n1,S.n2,S.n3,S.n4,S.n5,S.k1,S.k3,S.x3,S.r1,S.r2,S.a1,S.a2,S.w1,S.nd,S.sb,S.h2,S.h9⟩
theorem Sc.same (S:Sc H p l sc nl nh hg kn rw ag rn xs ns) (s:aY H H'):Sc H' p l sc nl nh hg kn rw ag rn xs ns:=S.out (S.pot.same s) (.of s)
theorem Sc.ts (S:Sc H p l sc nl nh hg kn rw ag rn xs ns) (o:cB [p,l,sc,nh] H H'):TS H H':=fun a ys e=>o a _ e fun z=>by
 obtain ⟨_,_,_,q⟩:=S.pot;simp only [List.mem_cons,List.not_mem_nil,or_false] at z;rcases z with z | z | z | z
 ·rw [z,q.pc] at e;cases e
 ·rw [z,q.lc] at e;cases e
 ·rw [z,S.sc] at e;cases e
 ·rw [z,S.hn] at e;cases e
theorem cB.out {sc nh:Addr}(o:Out p l H H'):cB [p,l,sc,nh] H H':=fun b u e n=>o b u e (fun z=>n (by simp [z])) fun z=>n (by simp [z])
theorem Sc.put (S:Sc H p l sc nl nh hg kn rw ag rn xs ns) {rw' ag' rn':Nat}(r1:1<=rn') (r2:rn'<=60) (a1:1<=ag') (a2:ag'<=27) (w1:rw'<=4):Sc (aN H sc (.dK (eR kn rw' ag' rn' hg nl))) p l sc nl nh hg kn rw' ag' rn' xs ns/\cB [p,l,sc,nh] H (aN H sc (.dK (eR kn rw' ag' rn' hg nl))):=by
 obtain ⟨a,b,c,q⟩:=S.pot;refine ⟨⟨⟨a,b,c,(aH S.scp.1.symm).trans q.pc,(aH S.scp.2.symm).trans q.lc,q.ne,q.s0,q.s1,q.n0,q.l0⟩,aD,(aH S.scn.1.symm).trans S.nm,(aH S.scn.2.symm).trans S.hn,S.n1,S.n2,S.n3,S.n4,S.n5,S.k1,S.k3,S.x3,r1,r2,a1,a2,w1,S.nd,S.sb,S.h2,S.h9⟩,cB.up (.refl _) (by simp)⟩
theorem Sc.names (S:Sc H p l sc nl nh hg kn rw ag rn xs ns) {ns':List Str}(nd:ns'.Nodup) (sb:jL ns' xs):Sc (aN H nh (.lst (ns'.map V.str))) p l sc nl nh hg kn rw ag rn xs ns'/\cB [p,l,sc,nh] H (aN H nh (.lst (ns'.map V.str))) :=
 ⟨⟨oM S.pot S.n3 S.n4,(aH S.scn.2).trans S.sc,(aH S.n5.symm).trans S.nm,aD,S.n1,S.n2,S.n3,S.n4,S.n5,S.k1,S.k3,S.x3,S.r1,S.r2,S.a1,S.a2,S.w1,nd,sb,S.h2,S.h9⟩,cB.up (.refl _) (by simp)⟩
theorem Sc.at (S:Sc H p l sc nl nh hg kn rw ag rn xs ns) {nh':Addr}{ns':List Str}(h:H nh'=some (.lst (ns'.map V.str))) (n3:nh'≠p) (n4:nh'≠l) (n5:nh'≠nl) (nd:ns'.Nodup) (sb:jL ns' xs):Sc H p l sc nl nh' hg kn rw ag rn xs ns' :=
 ⟨S.pot,S.sc,S.nm,h,S.n1,S.n2,n3,n4,n5,S.k1,S.k3,S.x3,S.r1,S.r2,S.a1,S.a2,S.w1,nd,sb,S.h2,S.h9⟩
theorem Sc.keep (S:Sc H p l sc nl nh hg kn rw ag rn xs ns) (o:cB [p,l,sc,nh] H H') {a:Addr}{ys:List V}(h:H a=some (.lst ys)) (n1:a≠p) (n2:a≠l) (n3:a≠nh):H' a=some (.lst ys):=o a _ h fun z=>by
 simp only [List.mem_cons,List.not_mem_nil,or_false] at z;rcases z with z | z | z | z
 ·exact n1 z
 ·exact n2 z
 ·rw [z,S.sc] at h;cases h
 ·exact n3 z
theorem Sc.g_again (S:Sc H p l sc nl nh hg kn rw ag rn xs ns):eK H sc (.str "again") (some (.int ag)):=by rw [<- kX (kn:=kn) (rw:=rw) (ag:=ag) (rn:=rn) (hg:=hg) (nl:=nl)];exact eK.k (k:=Sum.inr "again") S.sc
theorem Sc.g_runs (S:Sc H p l sc nl nh hg kn rw ag rn xs ns):eK H sc (.str "runs") (some (.int rn)):=by rw [<- nI (kn:=kn) (rw:=rw) (ag:=ag) (rn:=rn) (hg:=hg) (nl:=nl)];exact eK.k (k:=Sum.inr "runs") S.sc
theorem Sc.g_rows (S:Sc H p l sc nl nh hg kn rw ag rn xs ns):eK H sc (.str "rows") (some (.int rw)):=by rw [<- sK (kn:=kn) (rw:=rw) (ag:=ag) (rn:=rn) (hg:=hg) (nl:=nl)];exact eK.k (k:=Sum.inr "rows") S.sc
theorem Sc.g_high (S:Sc H p l sc nl nh hg kn rw ag rn xs ns):eK H sc (.str "high") (some (.int hg)):=by rw [<- rX (kn:=kn) (rw:=rw) (ag:=ag) (rn:=rn) (hg:=hg) (nl:=nl)];exact eK.k (k:=Sum.inr "high") S.sc
theorem Sc.g_kinds (S:Sc H p l sc nl nh hg kn rw ag rn xs ns):eK H sc (.str "kinds") (some (.int kn)):=by rw [<- wP (kn:=kn) (rw:=rw) (ag:=ag) (rn:=rn) (hg:=hg) (nl:=nl)];exact eK.k (k:=Sum.inr "kinds") S.sc
theorem Sc.g_names (S:Sc H p l sc nl nh hg kn rw ag rn xs ns):eK H sc (.str "names") (some (.ref nl)):=by rw [<- xO (kn:=kn) (rw:=rw) (ag:=ag) (rn:=rn) (hg:=hg) (nl:=nl)];exact eK.k (k:=Sum.inr "names") S.sc
theorem Sc.p_rows (S:Sc H p l sc nl nh hg kn rw ag rn xs ns) {y:Int}:lZ H sc (.str "rows") (.int y) (aN H sc (.dK (eR kn y ag rn hg nl))):=by
 have:=lZ.k (k:=Sum.inr "rows") (v:= .int y) S.sc (by show 6 < sizeLine;decide);rw [zS] at this;exact this
theorem Sc.p_again (S:Sc H p l sc nl nh hg kn rw ag rn xs ns) {y:Int}:lZ H sc (.str "again") (.int y) (aN H sc (.dK (eR kn rw y rn hg nl))):=by
 have:=lZ.k (k:=Sum.inr "again") (v:= .int y) S.sc (by show 6 < sizeLine;decide);rw [vO] at this;exact this
theorem Sc.p_runs (S:Sc H p l sc nl nh hg kn rw ag rn xs ns) {y:Int}:lZ H sc (.str "runs") (.int y) (aN H sc (.dK (eR kn rw ag y hg nl))):=by
 have:=lZ.k (k:=Sum.inr "runs") (v:= .int y) S.sc (by show 6 < sizeLine;decide);rw [zB] at this;exact this
end
def vQ (K:W.Frag):Sp:=fun vs H Q _=>∃ (a:Addr) (ns:List Int),vs=[.ref a,.int 0]/\bH K H a (ns.map V.int)/\ns.length<=63/\∀ p l H',fZ H' p l->aY H H'->Q (.ref p) H'
theorem wW (ns:List Int) (lo hi:Option Int):∃ ms:List Int,oG (ns.map V.int) lo hi=ms.map V.int/\ms.length<=ns.length:=by
 refine ⟨(ns.drop (HT.sIx ns.length 0 lo)).take (HT.sIx ns.length ns.length hi - HT.sIx ns.length 0 lo),?_,?_⟩
 ·unfold oG;rw [ac,List.map_take,List.map_drop]
 ·rw [bq,rc];omega
def mE:List Str:=["kind","ladders","flats","chose","firs","lets","tells","whens","ends","o","ofs","time"]
theorem yV {r:Int}(h0:0<=r) (h1:r < 12):∃ w:Str,jH (mE.map V.str) r=some (.str w)/\w.length<=8:=by
 obtain ⟨v,hv,ha⟩:=qZ (xs:=mE.map V.str) h0 h1;obtain ⟨w,rfl,hw⟩:=kP hv;exact ⟨w,ha,(by decide +kernel:∀ w∈mE,w.length<=8) w (ay hw)⟩
theorem kA (a b:Str):(a++b).length=a.length+b.length:=by
 show (a.cps++b.cps).size=a.cps.size+b.cps.size;exact Array.size_append
def uU:List Str:=["z","y","x"]
theorem yS {w:Str}{s:Nat}{ws:List Str}(s3:s<=3) (hs:jL (uU.take (s - 1)) ws) (hw:0 < s->w=uU.getD (s - 1) "") (c:w∈ws) (l2:ws.length<=2):s<=2/\jL (uU.take (s+1 - 1)) ws:=by
 have key:jL (uU.take s) ws:=by
  have:s=0\/s=1\/s=2\/s=3:=by omega
  rcases this with rfl | rfl | rfl | rfl
  ·exact fun _ z=>nomatch z
  ·intro y hy;rw [cq.mp (show y∈[("z": Str)] from hy)];rw [hw (by decide)] at c;exact c
  ·intro y hy;rcases bv.mp (show y∈[("z": Str),"y"] from hy) with e | e
   ·rw [e];exact hs _ (show ("z": Str)∈[("z": Str)] from bg)
   ·rw [cq.mp e];rw [hw (by decide)] at c;exact c
  ·intro y hy;rcases bv.mp (show y∈[("z": Str),"y","x"] from hy) with e | e
   ·rw [e];exact hs _ (show ("z": Str)∈[("z": Str),"y"] from bg)
   ·rcases bv.mp e with e | e
    ·rw [e];exact hs _ (show ("y": Str)∈[("z": Str),"y"] from aq _ bg)
    ·rw [cq.mp e];rw [hw (by decide)] at c;exact c
 have nd:uU.Nodup:=by decide +kernel
 have:=gG (nd.sublist (qr s uU)) key;rw [bq] at this;have e3:uU.length=3:=rfl;rw [e3] at this;exact ⟨by omega,key⟩
theorem aS8 {s:Nat}(h:s<=2):∃ c,jH ("zyxwvutsrqponmlkjihgfedcba": Str).cps.toList ((s:Int) % 26)=some c/\(⟨#[c]⟩:Str)=uU.getD s "":=by
 have:s=0\/s=1\/s=2:=by omega
 rcases this with rfl | rfl | rfl
 ·exact ⟨122,rfl,rfl⟩
 ·exact ⟨121,rfl,rfl⟩
 ·exact ⟨120,rfl,rfl⟩
def spNameP:Sp:=fun vs H Q _=>∃ p l,vs=[.ref p]/\fZ H p l/\∀ (w:Str) (H':Hp),w.length<=20->fZ H' p l->Out p l H H'->Q (.str w) H'
def spNamesP:Sp:=fun vs H Q _=>∃ (p l:Addr) (n:Int),vs=[.ref p,.int n]/\fZ H p l/\1<=n/\n<=3/\∀ (r:Addr) (ws:List Str) (H':Hp),H r=none->H' r=some (.lst (ws.map V.str))->ws.length=n.toNat->fZ H' p l->Out p l H H'->r≠p->r≠l->Q (.ref r) H'
def vK:Nat->Sp
 |0=>fun _ _ _ _=>False
 |n+1=>fun vs H Q _=>∃ (p l nh:Addr) (ns:List Str) (room:Int),vs=[.ref p,.ref nh,.int room]/\fZ H p l/\H nh=some (.lst (ns.map V.str))/\nh≠p/\nh≠l/\ns.length<=3/\1<=room/\room<=((n+1:Nat):Int)/\room<=12 /\
  ∀ (t:Tm) (H':Hp),fZ H' p l->Out p l H H'->wN H' t->(∀ y∈t.names,y∈ns)->(t.size:Int)<=room->t.ok->Q (.ref t.p) H'
def spThrP:Sp:=fun vs H Q _=>∃ (p l sc nl nh:Addr) (hg kn:Int) (rw ag rn:Nat) (xs ns:List Str) (x:Str),vs=[.ref p,.ref sc,.str x]/\Sc H p l sc nl nh hg kn rw ag rn xs ns /\
 ∀ (pt:Addr) (T:eO) (a3:V) (wss:List (List Int)) (rn':Nat) (H':Hp),iC H' (.thr pt x T a3 wss)->T.Ok->(∀ cs:List Int,(cs.length:Int)=kn->yN T wss cs)->szT T wss ^ ag * rn'<=rn->Sc H' p l sc nl nh hg kn rw ag rn' xs ns->cB [p,l,sc,nh] H H'->Q (.ref pt) H'
def nZ:Nat->Sp
 |0=>fun _ _ _ _=>False
 |m+1=>fun vs H Q _=>∃ (p l sc nl nh:Addr) (hg kn:Int) (rw ag rn left:Nat) (deep:Int) (xs ns:List Str),vs=[.ref p,.ref sc,.ref nh,.int left,.int deep]/\Sc H p l sc nl nh hg kn rw ag rn xs ns/\left<=3/\deep+(m:Int)=3/\ag * 3 ^ m<=27 /\
  ∀ (t:Addr) (rs:List Rw) (rw' rn':Nat) (ns':List Str) (H':Hp),H' t=some (.tup (aQ rs))->rs.length<=9->bI H' rs->Sc H' p l sc nl nh hg kn rw' ag rn' xs ns'->fQ xs ns ns' kn rw rw' ag rn rn' rs left m->cB [p,l,sc,nh] H H'->Q (.ref t) H'
def oS (b:Bool) (m:Nat):Sp:=fun vs H Q _=>∃ (p l sc nl nh:Addr) (hg kn:Int) (rw ag rn left:Nat) (deep:Int) (xs ns:List Str),vs=[.ref p,.ref sc,.ref nh,.int left,.int deep]/\Sc H p l sc nl nh hg kn rw ag rn xs ns/\left<=3/\deep+(m:Int)=3/\ag * 3 ^ m<=27/\(if b then 1<=rw/\1<=m else 0 < left\/0 < rw) /\
  ∀ (t:Addr) (r:Rw) (told rw' rn':Nat) (ns':List Str) (H':Hp),H' t=some (.tup [.ref r.p,.int told])->iC H' r->Sc H' p l sc nl nh hg kn rw' ag rn' xs ns'->fQ xs ns ns' kn rw rw' ag rn rn' [r] told m->told<=left->rw' < rw+told->cB [p,l,sc,nh] H H'->Q (.ref t) H'
theorem kQ {T:eO}{wss:List (List Int)}{kn:Int}(l1:1<=wss.length) (l4:wss.length<=4) (k3:kn<=3) (hw:∀ ws∈wss,ws.length=kn.toNat/\∀ x∈ws,0<=x/\x<=3) (o:T.one=true->wss.length=1):∀ cs:List Int,(cs.length:Int)=kn->yN T wss cs :=
 fun cs h=>⟨⟨l1,l4,fun ws hs=>⟨by rw [(hw ws hs).1];omega,by rw [(hw ws hs).1];omega,(hw ws hs).2⟩⟩,o⟩
theorem xK {few many ag rn:Nat}(h:((few ^ ag:Nat):Int)<=rn) (h1:1<=many) (hm:many<=few) (r2:rn<=60):1<=rn / many ^ ag/\rn / many ^ ag<=60/\many ^ ag * (rn / many ^ ag)<=rn/\0 < many ^ ag/\many ^ ag<=60:=by
 have p:0 < many ^ ag:=qx h1;have q:many ^ ag<=few ^ ag:=oz hm ag;have q2:few ^ ag<=rn:=by exact_mod_cast h
 refine ⟨(Nat.le_div_iff_mul_le p).mpr (by omega),aj (Nat.div_le_self _ _) r2,Nat.mul_div_le _ _,p,by omega⟩
section
variable {H H0 H1 H2:Hp}{p l sc nl nh a:Addr}{hg kn:Int}{rw ag rn:Nat}{xs ns:List Str}
theorem Sc.fresh (S:Sc H1 p l sc nl nh hg kn rw ag rn xs ns) (o:cB [p,l,sc,nh] H0 H1) (h:H1 a=none):H0 a=none:=by
 obtain ⟨_,_,_,q⟩:=S.pot
 cases e:H0 a with
 |none=>rfl
 |some u =>
  have z:a∉[p,l,sc,nh]:=fun z=>by
   simp only [List.mem_cons,List.not_mem_nil,or_false] at z;rcases z with z | z | z | z
   ·rw [z,q.pc] at h;cases h
   ·rw [z,q.lc] at h;cases h
   ·rw [z,S.sc] at h;cases h
   ·rw [z,S.hn] at h;cases h
  rw [o a u e z] at h
  cases h
theorem cB.in {p l sc nh a:Addr}(h:H0 a=none) (o:cB [p,l,sc,nh] H0 H1) (o':cB [p,l,sc,a] H1 H2):cB [p,l,sc,nh] H0 H2:=fun b u e n=>o' b u (o b u e n) fun z=>by
 simp only [List.mem_cons,List.not_mem_nil,or_false] at z n;rcases z with z | z | z | z
 ·exact n (.inl z)
 ·exact n (.inr (.inl z))
 ·exact n (.inr (.inr (.inl z)))
 ·rw [z,h] at e;cases e
theorem Sc.new (S:Sc H p l sc nl nh hg kn rw ag rn xs ns) (h:H a=none):a≠p/\a≠l/\a≠nl/\a≠nh:=by
 obtain ⟨n1,n2⟩:=dC S.pot h;exact ⟨n1,n2,(aK S.nm h).symm,(aK S.hn h).symm⟩
theorem zA {na nb:List Str}(h:ns.Nodup) (ha:na.Nodup):(ns++na.filter fun x=>decide (x∈nb) && decide (¬ x∈ns)).Nodup:=by
 refine qu.mpr ⟨h,ha.sublist List.filter_sublist,fun x hx y hy e=>?_⟩;have:=(de.mp hy).2;rw [gz] at this;exact ao this.2 (by rw [<- e];exact hx)
theorem yT {na nb:List Str}{x:Str}(h:x∈ns++na.filter fun x=>decide (x∈nb) && decide (¬ x∈ns)):x∈ns\/(x∈na/\x∈nb):=by
 rcases dj.mp h with q | q
 ·exact .inl q
 ·obtain ⟨q1,q2⟩:=de.mp q;rw [gz] at q2;exact .inr ⟨q1,ao q2.1⟩
end
theorem wD {kn rw ag rn hg:Int}{nl:Addr}:iJ [] (eR kn rw ag rn hg nl)=eR kn rw ag rn hg nl:=by
 unfold iJ eR;simp only [List.foldl_cons,List.foldl_nil];have e0:cZ ([]:List (Key×V)) (Sum.inr "kinds": Key) (V.int kn)=[((Sum.inr "kinds": Key),V.int kn)]:=rfl;have e1:cZ [((Sum.inr "kinds": Key),V.int kn)] (Sum.inr "rows": Key) (V.int rw)=[((Sum.inr "kinds": Key),V.int kn),((Sum.inr "rows": Key),V.int rw)]:=gT _ (by rw [aP aL0,gN]);have e2:cZ [((Sum.inr "kinds": Key),V.int kn),((Sum.inr "rows": Key),V.int rw)] (Sum.inr "again": Key) (V.int ag)=[((Sum.inr "kinds": Key),V.int kn),((Sum.inr "rows": Key),V.int rw),((Sum.inr "again": Key),V.int ag)]:=gT _ (by rw [aP aH4,aP aA1,gN]);have e3:cZ [((Sum.inr "kinds": Key),V.int kn),((Sum.inr "rows": Key),V.int rw),((Sum.inr "again": Key),V.int ag)] (Sum.inr "runs": Key) (V.int rn)=[((Sum.inr "kinds": Key),V.int kn),((Sum.inr "rows": Key),V.int rw),((Sum.inr "again": Key),V.int ag),((Sum.inr "runs": Key),V.int rn)]:=gT _ (by rw [aP aL9,aP yG,aP zJ,gN])
 have e4:cZ [((Sum.inr "kinds": Key),V.int kn),((Sum.inr "rows": Key),V.int rw),((Sum.inr "again": Key),V.int ag),((Sum.inr "runs": Key),V.int rn)] (Sum.inr "high": Key) (V.int hg)=[((Sum.inr "kinds": Key),V.int kn),((Sum.inr "rows": Key),V.int rw),((Sum.inr "again": Key),V.int ag),((Sum.inr "runs": Key),V.int rn),((Sum.inr "high": Key),V.int hg)]:=gT _ (by rw [aP aP9,aP aJ7,aP aK3,aP aH8,gN]);have e5:cZ [((Sum.inr "kinds": Key),V.int kn),((Sum.inr "rows": Key),V.int rw),((Sum.inr "again": Key),V.int ag),((Sum.inr "runs": Key),V.int rn),((Sum.inr "high": Key),V.int hg)] (Sum.inr "names": Key) (V.ref nl)=[((Sum.inr "kinds": Key),V.int kn),((Sum.inr "rows": Key),V.int rw),((Sum.inr "again": Key),V.int ag),((Sum.inr "runs": Key),V.int rn),((Sum.inr "high": Key),V.int hg),((Sum.inr "names": Key),V.ref nl)]:=gT _ (by rw [aP aO4,aP aL2,aP aJ3,aP aL8,aP aU3,gN]);rw [e0,e1,e2,e3,e4,e5]
theorem fQ.more {xs ns ns1:List Str}{kn:Int}{rw rw0 rw1 ag rn rn1:Nat}{rs:List Rw}{t m:Nat}(d:fQ xs ns ns1 kn rw rw1 ag rn rn1 rs t m) (h:rw<=rw0):fQ xs ns ns1 kn rw0 rw1 ag rn rn1 rs t m:=⟨d.ok,d.kn,d.out,d.tel,aj d.key h,d.run,d.up,d.dep,aj d.cost (cv (ae _) (by omega))⟩
theorem Out.in {p l d nh:Addr}{H H1 H2:Hp}(o:Out p l H H1) (h1:H d=none) (h2:H nh=none) (o':cB [p,l,d,nh] H1 H2):Out p l H H2:=fun b u e n1 n2=>o' b u (o b u e n1 n2) fun z=>by
 simp only [List.mem_cons,List.not_mem_nil,or_false] at z;rcases z with z | z | z | z
 ·exact n1 z
 ·exact n2 z
 ·rw [z,h1] at e;cases e
 ·rw [z,h2] at e;cases e
structure aA2 (xs:List Str) (kn:Int) (rs:List Rw):Prop where
 ok:∀ cs:List Int,(cs.length:Int)=kn->tL xs cs rs
 kn:uR rs []
 tel:hZ rs<=4
 key:(dY rs).length<=100
 w:wL rs<=60
 dep:eM rs<=3
 x3:xs.length=3
 cost:cR rs<=216
theorem fQ.pg {xs ns1:List Str}{kn:Int}{rw1 rn1:Nat}{rs:List Rw}{t:Nat}(d:fQ xs [] ns1 kn 5 rw1 1 60 rn1 rs t 3) (h:t<=3) (r1:1<=rn1) (x3:xs.length=3):aA2 xs kn rs :=
 ⟨d.ok,d.kn,by have:=d.tel;omega,by have:=d.key;omega,by have:=d.run;rw [Nat.pow_one] at this;exact aj (mf _ r1) this,d.dep,x3,by have:=d.cost;simp only [show 3 ^ 3=27 from rfl] at this;omega⟩
def spPrgP:Sp:=fun vs H Q _=>∃ (p l:Addr) (hg:Int),vs=[.ref p,.int 3,.int 60,.int hg]/\2<=hg/\hg<=9/\fZ H p l/\∀ (pg kt pr:Addr) (ks xs:List Str) (rs:List Rw) (H':Hp),H' pg=some (.tup [.ref kt,.ref pr])->H' kt=some (.tup (ks.map V.str))->1<=ks.length->ks.length<=3->H' pr=some (.tup (aQ rs))->bI H' rs->aA2 xs ks.length rs->fZ H' p l->Out p l H H'->Q (.ref pg) H'
theorem bI.mem {H:Hp}:∀ {rs:List Rw},bI H rs->∀ r∈rs,iC H r
 |[],_,_,h=>absurd h fq
 |r :: rs,⟨h,k⟩,x,hx=>by
  rcases bv.mp hx with e | e
  ·rw [e];exact h
  ·exact bI.mem k x e
def Rw.w:Rw->Str
 |.thr _ _ T _ _=>T.wd
 |.lt _ _ _=>"let"
 |.tell _ _=>"tell"
 |.when _ _ _ _ _ _=>"when"
 |.times _ _ _ _=>"times"
theorem iC.at {H:Hp}:∀ {r:Rw},iC H r->∃ us,H r.p=some (.tup (.str r.w :: us))
 |.thr _ _ _ _ _,h=>let ⟨us,e⟩:=h.1.at;⟨_,e⟩
 |.lt _ _ _,h=>⟨_,h.1⟩
 |.tell _ _,h=>⟨_,h.1⟩
 |.when _ _ _ _ _ _,h=>⟨_,h.1⟩
 |.times _ _ _ _,h=>⟨_,h.1⟩
mutual
def Rw.cnt:Rw->Nat
 |.when _ _ _ _ a b=>1+(cS a+cS b)
 |.times _ _ _ b=>1+cS b
 |.thr _ _ _ _ _=>1
 |.lt _ _ _=>1
 |.tell _ _=>1
def cS:List Rw->Nat
 |[]=>0
 |r :: rs=>r.cnt+cS rs
end
theorem lK:∀ (rs qs:List Rw),cS (rs++qs)=cS rs+cS qs
 |[],qs=>by simp [cS]
 |r :: rs,qs=>by simp only [List.cons_append,cS,lK rs qs];omega
theorem Rw.cnt_pos:∀ r:Rw,1<=r.cnt
 |.thr _ _ _ _ _=>ae _
 |.lt _ _ _=>ae _
 |.tell _ _=>ae _
 |.when _ _ _ _ _ _=>by unfold Rw.cnt;omega
 |.times _ _ _ _=>by unfold Rw.cnt;omega
theorem nG:∀ rs:List Rw,rs.length<=cS rs
 |[]=>bh _
 |r :: rs=>by have:=nG rs;have:=r.cnt_pos;simp only [List.length_cons,cS];omega
mutual
def Rw.flat:Rw->List Rw
 |.when p pa pb t a b=> .when p pa pb t a b :: (cE a++cE b)
 |.times p pb n b=> .times p pb n b :: cE b
 |.thr p x T a3 wss=>[.thr p x T a3 wss]
 |.lt p x t=>[.lt p x t]
 |.tell p t=>[.tell p t]
def cE:List Rw->List Rw
 |[]=>[]
 |r :: rs=>r.flat++cE rs
end
def Rw.kids:Rw->List Rw
 |.when _ _ _ _ a b=>a++b
 |.times _ _ _ b=>b
 |.thr _ _ _ _ _=>[]
 |.lt _ _ _=>[]
 |.tell _ _=>[]
theorem mP:∀ (rs qs:List Rw),cE (rs++qs)=cE rs++cE qs
 |[],qs=>by simp [cE]
 |r :: rs,qs=>by simp only [List.cons_append,cE,mP rs qs,List.append_assoc]
theorem wK:∀ r:Rw,r.cnt=1+cS r.kids
 |.when _ _ _ _ a b=>by simp only [Rw.cnt,Rw.kids,lK]
 |.times _ _ _ b=>by simp only [Rw.cnt,Rw.kids]
 |.thr _ _ _ _ _=>by simp only [Rw.cnt,Rw.kids,cS]
 |.lt _ _ _=>by simp only [Rw.cnt,Rw.kids,cS]
 |.tell _ _=>by simp only [Rw.cnt,Rw.kids,cS]
theorem iC.kids {H:Hp}:∀ {r:Rw},iC H r->bI H r.kids
 |.when _ _ _ _ _ _,h=>bI.app h.2.2.2.2.1 h.2.2.2.2.2
 |.times _ _ _ _,h=>h.2.2
 |.thr _ _ _ _ _,_=>trivial
 |.lt _ _ _,_=>trivial
 |.tell _ _,_=>trivial
mutual
theorem wV:∀ r:Rw,r.flat.length=r.cnt
 |.when _ _ _ _ a b=>by simp only [Rw.flat,Rw.cnt,List.length_cons,List.length_append,dN a,dN b];omega
 |.times _ _ _ b=>by simp only [Rw.flat,Rw.cnt,List.length_cons,dN b];omega
 |.thr _ _ _ _ _=>by simp only [Rw.flat,Rw.cnt,List.length_cons,List.length_nil]
 |.lt _ _ _=>by simp only [Rw.flat,Rw.cnt,List.length_cons,List.length_nil]
 |.tell _ _=>by simp only [Rw.flat,Rw.cnt,List.length_cons,List.length_nil]
theorem dN:∀ rs:List Rw,(cE rs).length=cS rs
 |[]=>rfl
 |r :: rs=>by simp only [cE,cS,List.length_append,wV r,dN rs]
end
mutual
theorem iC.flat {H:Hp}:∀ (r:Rw),iC H r->bI H r.flat
 |.when p pa pb t a b,h=>by
  simp only [Rw.flat];exact ⟨h,bI.app (bI.flat a h.2.2.2.2.1) (bI.flat b h.2.2.2.2.2)⟩
 |.times p pb n b,h=>by
  simp only [Rw.flat];exact ⟨h,bI.flat b h.2.2⟩
 |.thr _ _ _ _ _,h=>by simp only [Rw.flat];exact ⟨h,trivial⟩
 |.lt _ _ _,h=>by simp only [Rw.flat];exact ⟨h,trivial⟩
 |.tell _ _,h=>by simp only [Rw.flat];exact ⟨h,trivial⟩
theorem bI.flat {H:Hp}:∀ (rs:List Rw),bI H rs->bI H (cE rs)
 |[],_=>trivial
 |r :: rs,⟨h,k⟩=>by
  simp only [cE];exact bI.app (iC.flat r h) (bI.flat rs k)
end
abbrev Stp:=Str×Rw
def dZ:Rw->List Stp
 |.when p pa pb t a b=>a.map (fun r=>(("row": Str),r))++[(("else": Str),Rw.when p pa pb t a b)]++b.map (fun r=>(("row": Str),r))++[(("end": Str),Rw.when p pa pb t a b)]
 |.times p pb n b=>b.map (fun r=>(("row": Str),r))++[(("end": Str),Rw.times p pb n b)]
 |.thr _ _ _ _ _=>[]
 |.lt _ _ _=>[]
 |.tell _ _=>[]
mutual
def eS:Rw->List Stp
 |.when p pa pb t a b=>(("row": Str),Rw.when p pa pb t a b) :: (eZ a++[(("else": Str),Rw.when p pa pb t a b)]++eZ b++[(("end": Str),Rw.when p pa pb t a b)])
 |.times p pb n b=>(("row": Str),Rw.times p pb n b) :: (eZ b++[(("end": Str),Rw.times p pb n b)])
 |.thr p x T a3 wss=>[("row",.thr p x T a3 wss)]
 |.lt p x t=>[("row",.lt p x t)]
 |.tell p t=>[("row",.tell p t)]
def eZ:List Rw->List Stp
 |[]=>[]
 |r :: rs=>eS r++eZ rs
end
def expd (s:Stp):List Stp:=if s.1="row" then eS s.2 else [s]
theorem xA:¬ (("else": Str)="row"):=by decide +kernel
theorem nV:¬ (("end": Str)="row"):=by decide +kernel
theorem hG:∀ rs:List Rw,(rs.map (fun r=>(("row": Str),r))).flatMap expd=eZ rs
 |[]=>rfl
 |r :: rs=>by simp only [List.map_cons,List.flatMap_cons,hG rs,eZ];rfl
theorem rV:∀ r:Rw,eS r=(("row": Str),r) :: (dZ r).flatMap expd
 |.when p pa pb t a b=>by
  simp only [eS,dZ,List.flatMap_append,hG,List.flatMap_cons,List.flatMap_nil,List.append_nil];simp only [expd,if_neg xA,if_neg nV]
 |.times p pb n b=>by
  simp only [eS,dZ,List.flatMap_append,hG,List.flatMap_cons,List.flatMap_nil,List.append_nil];simp only [expd,if_neg nV]
 |.thr _ _ _ _ _=>by simp only [eS,dZ,List.flatMap_nil]
 |.lt _ _ _=>by simp only [eS,dZ,List.flatMap_nil]
 |.tell _ _=>by simp only [eS,dZ,List.flatMap_nil]
mutual
theorem wQ:∀ r:Rw,(eS r).length<=3 * r.cnt
 |.when _ _ _ _ a b=>by have:=eF a;have:=eF b;simp only [eS,Rw.cnt,List.length_cons,List.length_append,List.length_nil];omega
 |.times _ _ _ b=>by have:=eF b;simp only [eS,Rw.cnt,List.length_cons,List.length_append,List.length_nil];omega
 |.thr _ _ _ _ _=>by simp only [eS,Rw.cnt,List.length_cons,List.length_nil];omega
 |.lt _ _ _=>by simp only [eS,Rw.cnt,List.length_cons,List.length_nil];omega
 |.tell _ _=>by simp only [eS,Rw.cnt,List.length_cons,List.length_nil];omega
theorem eF:∀ rs:List Rw,(eZ rs).length<=3 * cS rs
 |[]=>ae _
 |r :: rs=>by have:=wQ r;have:=eF rs;simp only [eZ,cS,List.length_append];omega
end
mutual
theorem tK:∀ r:Rw,((eS r).filter fun s:Stp=>decide (s.1="row")).map (·.2)=r.flat
 |.when p pa pb t a b=>by
  simp only [eS,Rw.flat,List.filter_cons,List.filter_append,List.map_append,List.filter_nil,decide_eq_false xA,decide_eq_false nV,decide_true,if_true,List.map_cons,List.map_nil,List.append_nil,Bool.false_eq_true,if_false,eJ a,eJ b]
 |.times p pb n b=>by
  simp only [eS,Rw.flat,List.filter_cons,List.filter_append,List.map_append,List.filter_nil,decide_eq_false nV,decide_true,if_true,List.map_cons,List.map_nil,List.append_nil,Bool.false_eq_true,if_false,eJ b]
 |.thr _ _ _ _ _=>by simp [eS,Rw.flat]
 |.lt _ _ _=>by simp [eS,Rw.flat]
 |.tell _ _=>by simp [eS,Rw.flat]
theorem eJ:∀ rs:List Rw,((eZ rs).filter fun s:Stp=>decide (s.1="row")).map (·.2)=cE rs
 |[]=>rfl
 |r :: rs=>by simp only [eZ,cE,List.filter_append,List.map_append,tK r,eJ rs]
end
def gF (H:Hp) (z:V) (s:Stp):Prop:=∃ q,z= .ref q/\H q=some (.tup [.str s.1,.ref s.2.p])
def dI (H:Hp) (z:V) (s:Stp):Prop:=∃ q n,z= .ref q/\H q=some (.tup [.str s.1,.ref s.2.p,.int n])
theorem gF.ts {H H':Hp}(t:TS H H') {z:V}{s:Stp}(h:gF H z s):gF H' z s:=by obtain ⟨q,e,k⟩:=h;exact ⟨q,e,t _ _ k⟩
theorem dI.ts {H H':Hp}(t:TS H H') {z:V}{s:Stp}(h:dI H z s):dI H' z s:=by obtain ⟨q,n,e,k⟩:=h;exact ⟨q,n,e,t _ _ k⟩
theorem fW {n:Nat}(h:n<=9000000):n < sizeLine:=by rw [jx];omega
theorem wTW:¬ (V.str "times"=V.str "when"):=by decide +kernel
theorem wLW:¬ (V.str "let"=V.str "when"):=by decide +kernel
theorem wLT:¬ (V.str "let"=V.str "times"):=by decide +kernel
theorem wEW:¬ (V.str "tell"=V.str "when"):=by decide +kernel
theorem wET:¬ (V.str "tell"=V.str "times"):=by decide +kernel
theorem aF2 {w:Str}(h:w∈iB):¬ (V.str w=V.str "when"):=fun z=>by
 have e:w="when":=by injection z
 rw [e] at h;exact absurd h (by decide +kernel)
theorem aF1 {w:Str}(h:w∈iB):¬ (V.str w=V.str "times"):=fun z=>by
 have e:w="times":=by injection z
 rw [e] at h;exact absurd h (by decide +kernel)
theorem bN (rs:List Rw):(aQ rs).length=rs.length:=ac _
theorem jE {rs:List Rw}{i:Nat}{v:V}(h:(aQ rs)[i]?=some v):∃ r,v= .ref r.p/\rs[i]?=some r:=by
 unfold aQ at h;rw [fe] at h
 cases e:rs[i]? with
 |none=>rw [e] at h;cases h
 |some r=>rw [e] at h;exact ⟨r,(ci h).symm,rfl⟩
theorem fN (rs qs:List Rw):aQ (rs++qs)=aQ rs++aQ qs:=az ..
theorem jI {α: Type}{R:V->α->Prop}:∀ {vs:List V}{as:List α}{i:Nat}{v:V},dA R vs as->vs[i]?=some v->∃ a,as[i]?=some a/\R v a
 |[],[],i,v,_,h=>by cases h
 |v :: vs,a :: as,0,_,⟨e,_⟩,h=>by cases h;exact ⟨a,rfl,e⟩
 |v :: vs,a :: as,i+1,x,⟨_,r⟩,h=>by
  obtain ⟨b,h1,h2⟩:=jI (i:=i) (v:=x) r (by simpa using h);exact ⟨b,by simpa using h1,h2⟩
 |[],_ :: _,_,_,z,_=>z.elim
 |_ :: _,[],_,_,z,_=>z.elim
theorem nQ {α: Type}{R:V->α->Prop}:∀ {vs:List V}{as:List α},dA R vs as->dA R vs.reverse as.reverse
 |[],[],_=>trivial
 |v :: vs,a :: as,⟨e,r⟩=>by
  rw [ko,ko];exact dA.append (nQ r) ⟨e,trivial⟩
 |[],_ :: _,z=>z.elim
 |_ :: _,[],z=>z.elim
theorem qF {α: Type}{R:V->α->Prop}:∀ {as:List α}{vs:List V}{a:α},dA R vs (as++[a])->∃ us v,vs=us++[v]/\dA R us as/\R v a
 |[],[v],a,⟨e,_⟩=>⟨[],v,rfl,trivial,e⟩
 |[],_ :: _ :: _,_,⟨_,z⟩=>z.elim
 |[],[],_,z=>z.elim
 |b :: bs,[],_,z=>z.elim
 |b :: bs,v :: vs,a,⟨e,r⟩=>by
  obtain ⟨us,u,h1,h2,h3⟩:=qF (as:=bs) r;exact ⟨v :: us,u,by rw [h1];rfl,⟨e,h2⟩,h3⟩
theorem vD (r:Rw):1<=(eS r).length:=by rw [rV];simp
theorem sL (s:Stp):1<=(expd s).length:=by
 unfold expd
 split
 ·exact vD _
 ·simp
theorem qU:∀ l:List Stp,l.length<=(l.flatMap expd).length
 |[]=>ae _
 |t :: r=>by have:=qU r;have:=sL t;rw [ef,dt,ap];omega
theorem kK:∀ {rs:List Rw}{r:Rw},r∈rs->r.cnt<=cS rs
 |[],_,h=>absurd h fq
 |q :: rs,r,h=>by
  simp only [cS];rcases bv.mp h with e | e
  ·rw [e];omega
  ·have:=kK e;omega
theorem uE:∀ {r:Rw}{s:Stp},s∈dZ r->s.2=r\/s.2∈r.kids
 |.when p pa pb t a b,s,h=>by
  simp only [dZ,List.mem_append,List.mem_map,List.mem_singleton] at h;rcases h with ((⟨x,hx,e⟩ | e) | ⟨x,hx,e⟩) | e
  ·right;rw [<- e];exact er _ hx
  ·left;rw [e]
  ·right;rw [<- e];exact bc _ hx
  ·left;rw [e]
 |.times p pb n b,s,h=>by
  simp only [dZ,List.mem_append,List.mem_map,List.mem_singleton] at h;rcases h with ⟨x,hx,e⟩ | e
  ·right;rw [<- e];exact hx
  ·left;rw [e]
 |.thr _ _ _ _ _,_,h=>absurd h fq
 |.lt _ _ _,_,h=>absurd h fq
 |.tell _ _,_,h=>absurd h fq
theorem vW {H:Hp}{r:Rw}(h:iC H r) (hc:r.cnt<=4000) {s:Stp}(m:s∈dZ r):iC H s.2/\s.2.cnt<=4000:=by
 rcases uE m with e | e
 ·rw [e];exact ⟨h,hc⟩
 ·have:=kK e;have:=wK r;exact ⟨h.kids.mem _ e,by omega⟩
def mx (a b:Int):Int:=if b > a then b else a
theorem lU {a b:Int}:a<=mx a b/\b<=mx a b:=by unfold mx;split <;> omega
theorem aC6 {a b:Int}:mx a b=a\/mx a b=b:=by unfold mx;split <;> omega
theorem mx0 {a:Int}(h:0<=a):mx a 0=a:=ar (by omega)
theorem aU4 (a b c:Int):mx (mx a b) c=mx a (mx b c):=by unfold mx;repeat' split <;> omega
def lV (lo hb n:Int):Int:=if (if n < hb then n else hb) > lo then (if n < hb then n else hb) else lo
def kH (lo hb w:Int):Nat->Int->Int
 |0,t=>t
 |n+1,t=>if lV lo hb ((n:Int) * w)≠lV lo hb (((n:Int)+1) * w) then mx (kH lo hb w n t) ((n:Int)+1) else kH lo hb w n t
def iD (lo hb w:Int):Int:=if lo=hb then 0 else if 0 < w then (hb+w - 1) / w else 0
theorem zE:∀ (lo hb:Fin 10) (w:Fin 4),lo<=hb->kH (lo.val:Int) (hb.val:Int) (w.val:Int) 10 0=iD (lo.val:Int) (hb.val:Int) (w.val:Int)/\iD (lo.val:Int) (hb.val:Int) (w.val:Int)<=9/\0<=iD (lo.val:Int) (hb.val:Int) (w.val:Int):=by decide +kernel
theorem xM {lo hb w:Int}(l0:0<=lo) (lh:lo<=hb) (h9:hb<=9) (w0:0<=w) (w3:w<=3):kH lo hb w 10 0=iD lo hb w/\iD lo hb w<=9/\0<=iD lo hb w:=by
 have:=zE ⟨lo.toNat,by omega⟩ ⟨hb.toNat,by omega⟩ ⟨w.toNat,by omega⟩ (by show lo.toNat<=hb.toNat;omega);simp only [Int.toNat_of_nonneg l0,Int.toNat_of_nonneg w0,Int.toNat_of_nonneg (show 0<=hb by omega)] at this;exact this
theorem nE (lo hb w:Int):∀ (n:Nat) (t:Int),0<=t->kH lo hb w n t=mx t (kH lo hb w n 0)
 |0,t,h=>(mx0 h).symm
 |n+1,t,h=>by
  simp only [kH]
  split
  ·rw [nE lo hb w n t h,aU4]
  ·exact nE lo hb w n t h
def iA (ns:List Int):Int:=ns.foldl mx 0
theorem hU:∀ (ns:List Int) (t:Int),0<=t->ns.foldl mx t=mx t (iA ns)
 |[],t,h=>(mx0 h).symm
 |n :: r,t,h=>by
  have h1:=(lU (a:=t) (b:=n)).1;have e:=hU r (mx t n) (by omega);have e2:iA (n :: r)=mx (mx 0 n) (iA r):=hU r (mx 0 n) lU.1;rw [gn,e,e2];unfold mx
  repeat' split <;> omega
theorem nK (ns:List Int):0<=iA ns:=by
 have h5:iA ns=mx 0 (iA ns):=hU ns 0 (ng _);have:=(lU (a:=0) (b:=iA ns)).1;omega
theorem gU (n:Int) (r:List Int):iA (n :: r)=mx (mx 0 n) (iA r):=hU r (mx 0 n) lU.1
theorem nW:∀ (ns:List Int),iA ns=0\/iA ns∈ns
 |[]=> .inl rfl
 |n :: r=>by
  rw [gU];rcases aC6 (a:=mx 0 n) (b:=iA r) with e | e
  ·rw [e];rcases aC6 (a:=0) (b:=n) with q | q
   ·exact .inl q
   ·rw [q];exact .inr bg
  ·rw [e];rcases nW r with q | q
   ·exact .inl q
   ·exact .inr (aq _ q)
theorem wU:∀ {ns:List Int}{n:Int},n∈ns->n<=iA ns
 |m :: r,n,h=>by
  rw [gU];have h1:=lU (a:=mx 0 m) (b:=iA r);have h2:=lU (a:=0) (b:=m);rcases bv.mp h with e | e
  ·omega
  ·have:=wU e;omega
theorem vU {ns:List Int}{i:Int}(h0:∀ n∈ns,0<=n) (hi:i∈ns) (hm:∀ n∈ns,n<=i):i=iA ns:=by
 have h1:=wU hi;have h2:=h0 i hi;rcases nW ns with q | q
 ·omega
 ·have:=hm _ q;omega
theorem xC {ns:List Int}(h:∀ n∈ns,n<=9):iA ns<=9:=by
 rcases nW ns with q | q
 ·omega
 ·exact h _ q
theorem sH (f:Int->Int):∀ (ws:List Int),(∀ w∈ws,0 < w->0<=f w)->iA ((ws.filter fun w=>decide (0 < w)).map f)=iA (ws.map fun w=>if 0 < w then f w else 0)
 |[],_=>rfl
 |w :: r,h=>by
  have ih:=sH f r fun w hw=>h w (aq _ hw)
  by_cases c:0 < w
  ·rw [cy (p:=fun w:Int=>decide (0 < w)) (ah c),df,df,gU,gU,ih,bj c]
  ·rw [bz (p:=fun w:Int=>decide (0 < w)) (by simpa using c),df,gU,ih,ar c];have:=nK (r.map fun w=>if 0 < w then f w else 0);unfold mx
   split <;> split <;> omega
def qN:Rw->Bool
 |.thr _ _ _ _ _=>true
 |.lt _ _ _=>false
 |.tell _ _=>false
 |.when _ _ _ _ _ _=>false
 |.times _ _ _ _=>false
theorem aF0:∀ r:Rw,decide (r.w∈iB)=qN r
 |.thr _ _ T _ _=>by cases T <;> exact ah (by simp [Rw.w,eO.wd,iB])
 |.lt _ _ _=>bo (show ¬ ("let": Str)∈iB by decide +kernel)
 |.tell _ _=>bo (show ¬ ("tell": Str)∈iB by decide +kernel)
 |.when _ _ _ _ _ _=>bo (show ¬ ("when": Str)∈iB by decide +kernel)
 |.times _ _ _ _=>bo (show ¬ ("times": Str)∈iB by decide +kernel)
def bF (rs:List Rw):List Rw:=(cE rs).filter qN
theorem vA (rs qs:List Rw):bF (rs++qs)=bF rs++bF qs:=by unfold bF;rw [mP,fz]
theorem yQ {p:Addr}{x:Str}{T:eO}{a3:V}{wss:List (List Int)}:bF [.thr p x T a3 wss]=[.thr p x T a3 wss]:=rfl
theorem aL3 {p:Addr}{x:Str}{t:Tm}:bF [.lt p x t]=[]:=rfl
theorem vP {p:Addr}{t:Tm}:bF [.tell p t]=[]:=rfl
theorem xY {p pa pb:Addr}{t:Tm}{a b:List Rw}:bF [.when p pa pb t a b]=bF a++bF b:=by
 unfold bF;simp only [cE,Rw.flat,List.append_nil,List.cons_append,List.filter_append];rw [bz (by simp [qN]),fz]
theorem uN {p pb:Addr}{n:Nat}{b:List Rw}:bF [.times p pb n b]=bF b:=by
 unfold bF;simp only [cE,Rw.flat,List.append_nil,List.cons_append];rw [bz (by simp [qN])]
mutual
theorem wI {NM:List Str}{cs:List Int}:∀ {r:Rw},okR NM cs r->∀ q∈r.flat,okR NM cs q
 |.thr _ _ _ _ _,h,q,hq=>by simp only [Rw.flat,List.mem_singleton] at hq;rw [hq];exact h
 |.lt _ _ _,h,q,hq=>by simp only [Rw.flat,List.mem_singleton] at hq;rw [hq];exact h
 |.tell _ _,h,q,hq=>by simp only [Rw.flat,List.mem_singleton] at hq;rw [hq];exact h
 |.when _ _ _ _ a b,h,q,hq=>by
  simp only [Rw.flat,List.mem_cons,List.mem_append] at hq;rcases hq with e | e | e
  ·rw [e];exact h
  ·exact gM h.2.1 q e
  ·exact gM h.2.2 q e
 |.times _ _ _ b,h,q,hq=>by
  simp only [Rw.flat,List.mem_cons] at hq;rcases hq with e | e
  ·rw [e];exact h
  ·exact gM h q e
theorem gM {NM:List Str}{cs:List Int}:∀ {rs:List Rw},tL NM cs rs->∀ q∈cE rs,okR NM cs q
 |[],_,q,hq=>absurd hq fq
 |r :: rs,h,q,hq=>by
  simp only [cE,List.mem_append] at hq;rcases hq with e | e
  ·exact wI h.1 q e
  ·exact gM h.2 q e
end
mutual
theorem xZ:∀ {r:Rw}{D:List Str},knR r D->r.cnt<=r.cost
 |.thr _ _ _ _ _,_,_=>by simp only [Rw.cnt,Rw.cost];omega
 |.lt _ _ _,_,_=>by simp only [Rw.cnt,Rw.cost];omega
 |.tell _ _,_,_=>by simp only [Rw.cnt,Rw.cost];omega
 |.when _ _ _ _ a b,_,h=>by have:=fP h.2.1;have:=fP h.2.2;simp only [Rw.cnt,Rw.cost];omega
 |.times _ _ n b,_,h=>by
  have h1:=fP h.2;have h2:=cv h.1.1 (ae (cR b));simp only [Rw.cnt,Rw.cost];omega
theorem fP:∀ {rs:List Rw}{D:List Str},uR rs D->cS rs<=cR rs
 |[],_,_=>ae _
 |r :: rs,_,h=>by have:=xZ h.1;have:=fP h.2;simp only [cS,cR];omega
end
def uL (T:eO) (wss:List (List Int)) (kd:Nat):Int:=iA (wss.map fun ws=>iD T.lo T.hb (ws.getD kd 0))
def tR:Nat->Rw->Int
 |kd,.thr _ _ T _ wss=>uL T wss kd
 |_,.lt _ _ _=>0
 |_,.tell _ _=>0
 |_,.when _ _ _ _ _ _=>0
 |_,.times _ _ _ _=>0
def wA (rs:List Rw) (kd:Nat):Int:=iA ((bF rs).map (tR kd))
def cX (rs:List Rw) (n:Nat):List Int:=(List.range n).map (wA rs)
theorem pG (rs:List Rw) (n:Nat):(cX rs n).length=n:=by unfold cX;rw [ac,fg]
def tW (n:Nat) (r:Rw):Prop:=∃ p x T a3 wss,r= .thr p x T a3 wss/\T.Ok/\1<=wss.length/\wss.length<=4/\∀ ws∈wss,ws.length=n/\∀ w∈ws,0<=w/\w<=3
end Mine
namespace L2
open PySem PySem.Spec PyProof.Rows
abbrev aN3 (rest:List Value):Obj:={ cls:= .type "tuple",data:= .seq rest.toArray }
abbrev aM7 (C t:Addr):Obj:={ cls:= .ref C,data:= .fields #[.ref t,.none,.none,.none,.bool false,.none] }
abbrev jB (h:Heap) (C:Addr) (rest:List Value):Heap:=(h.push (aN3 rest)).push (aM7 C h.objs.size)
section
variable {prog:Program}{w:World}{A:Around}{E:Value->Shared->Prop}{h:Heap}{g:Array GenState}{d:Drawn}{t:Nat}{os:OsState}
variable {nm q:Str}{C N fI:Addr}{bs bm bmB bmN:List Value}{hdct:Bool}{sn:List Str}{sub:List Value}{ab:Bool}{col:Option Bool}{dd:Option Addr}{k0 k1 k2 k3 k5:Option Value}{B Bn newId nid inN initId:String}
theorem fK {b:Addr}{o:Obj}{rest:List Value}(e:h.get? b=some o):(jB h C rest).get? b=some o:=af _ (af _ e)
theorem mG {rest:List Value}:(jB h C rest).get? (h.objs.size+1)=some (aM7 C h.objs.size):=by heap_get
theorem qE (Fn:ExcBaseFacts Bn newId inN bmN) (hBn:bmB.contains (.type Bn)=true) (F:ExcBaseFacts B nid initId bmB) (T:OwnTail h bmB bm) {mN:Str->Option Value}{rest:List Value}{oI:Obj}{Q:Fin->Shared->Prop}
  (hC:h.get? C=some (excClassObj nm q C N bs bm hdct sn sub ab col dd k0 k1 k2 k3 k5 newId)) (hn:h.Ns N mN) (hi:mN "__init__"=some (.ref fI)) (ho:h.get? fI=some oI) (hf:oI.cls= .type "function") (hz:rest.length<=sizeLine)
  (k:wpAny (model prog w) A (call (.ref fI) (.ref (h.objs.size+1) :: rest)) (fun r s'=>r= .none/\Q (.done (.ret (.ref (h.objs.size+1)))) s') E ⟨jB h C rest,g,d,t,os⟩) :
  wpAny (model prog w) A (Builtin.«type.__call__» ⟨.ref C :: rest,[]⟩) Q E ⟨h,g,d,t,os⟩:=by
 repeat (first | with_reducible refine gu hC ?_ | with_reducible refine wpAny_madeBy_exc hC ?_ | wp_step)
 refine codeAny_call_builtin_code (qf _ Fn.quiet) (wpAny_check_new_subU Fn hBn T hC (codeAny_exc_new_subU Fn hBn F T hC ?_ hz));show wpAny _ _ _ _ _ ⟨jB h C rest,g,d,t,os⟩;have c2:=fK (C:=C) (rest:=rest) hC;have n2:(jB h C rest).Ns N mN:=let ⟨o,es,ep,e,r⟩:=hn;⟨o,es,ep,fK e,r⟩
 have T2:OwnTail (jB h C rest) bmB bm:=T.keeps fun b o e=>fK e
 have self:(Value.ref C :: bm).contains (.ref C)=true:=by simp
 have x2:=mG (h:=h) (C:=C) (rest:=rest);unfold isInstance
 repeat (first | with_reducible refine gu x2 ?_ | (with_reducible refine pd c2 ?_;rw [self]) | wp_step)
 show wpAny _ _ (typeLookup (.ref C) _) _ _ _;refine wpAny_typeLookup_tail c2 n2 T2 F.mroIs F.init.lookup ?_;rw [hi];refine gf (aa ?_);unfold bindSpecial;refine aa (wpAny_typeOf (T:="function") ⟨_,fK ho,hf⟩ ?_);rw [bj (by decide)];refine am (aa (bi k (fun r s' z=>?_) fun _ _ z=>z));obtain ⟨rfl,z⟩:=z
 wp_walk
 exact z
theorem aD8 (Fn:ExcBaseFacts Bn newId inN bmN) (hBn:bmB.contains (.type Bn)=true) (F:ExcBaseFacts B nid initId bmB) (T:OwnTail h bmB bm) {mN:Str->Option Value}{rest:List Value}{oI:Obj}{Q:Value->Shared->Prop}
  (hC:h.get? C=some (excClassObj nm q C N bs bm hdct sn sub ab col dd k0 k1 k2 k3 k5 newId)) (hn:h.Ns N mN) (hi:mN "__init__"=some (.ref fI)) (ho:h.get? fI=some oI) (hf:oI.cls= .type "function") (hz:rest.length<=sizeLine)
  (k:wpAny (model prog w) (A.under (.builtin "type.__call__" ⟨.ref C :: rest,[]⟩)) (call (.ref fI) (.ref (h.objs.size+1) :: rest)) (fun r s'=>r= .none/\Q (.ref (h.objs.size+1)) s') E ⟨jB h C rest,g,d,t,os⟩) :
  wpAny (model prog w) A (call (.ref C) rest) Q E ⟨h,g,d,t,os⟩:=by
 have a1:=tc_lookup;have a2:=tc_bind (.ref C);have ty:(⟨h,g,d,t,os⟩:Shared).TypeIs (.ref C) "type":=⟨_,hC,rfl⟩
 refine oj (codeAny_of_tree ?_);show wpAny _ _ (callAny (.ref C) ⟨rest,[]⟩) _ _ _
 repeat (any_goals (first | assumption | with_reducible refine gu hC ?_ | wp_step))
 refine ⟨rfl,codeAny_call_builtin_at (qf _ (by decide +kernel)) entry_typeCall (wpAny_check_type_call_sub hC (qE Fn hBn F T hC hn hi ho hf hz k))⟩
end
def dS (K:W.Frag) (N:Addr):Bool:=match K.lookup N with
 |some ⟨_,_,.dict es _,_⟩=>es.toList.all fun e=>match e.key with | .str _ _=>true | _=>false
 |_=>false
theorem lM {K:W.Frag}{h:Heap}{N:Addr}(X:K.In h) (e:dS K N=true):∃ m,h.Ns N m:=by
 unfold dS at e
 split at e
 ·rename_i c dd es ep sl ho
  refine ⟨_,_,es,ep,X _ _ ho,rfl,fun x hx=>?_,fun _=>rfl⟩;have q:=List.all_eq_true.mp e x (by simpa using hx)
  cases hk:x.key with
  |str n t=>exact ⟨n,t,rfl⟩
  |_=>rw [hk] at q;cases q
 ·cases e
def XD (a C dx:Addr):HO:= .ext fun h=>∃ o,h.get? a=some o/\o.cls= .ref C/\W.notCls o=true/\o.dict=some dx
def XM (a:Addr) (fs:List (Str×V)):HO:= .ext fun h=>∃ mA,h.Ns1 a mA/\(∀ f,iE (fs.lookup f) (mA f))/\PySem.Within mA (fs.map (·.1))
section
variable {P:Program}{w:World}{H:Hp}{h:Heap}{a C dx:Addr}{fs:List (Str×V)}
theorem aS9 (e:∃ o,h.get? a=some o/\o.cls= .ref C/\W.notCls o=true/\o.dict=some dx):bL P w H h a (XD a C dx) :=
 ⟨e,let ⟨o,q,_⟩:=e;⟨o,q⟩,(by rintro _ _ ⟨o,q,r⟩ k;exact ⟨o,k o q,r⟩)⟩
theorem aA9 (e:∃ mA,h.Ns1 a mA/\(∀ f,iE (fs.lookup f) (mA f))/\PySem.Within mA (fs.map (·.1))):bL P w H h a (XM a fs) :=
 ⟨e,let ⟨_,⟨o,_,_,q,_⟩,_⟩:=e;⟨o,q⟩,(by rintro _ _ ⟨mA,n,r⟩ k;exact ⟨mA,n.at k,r⟩)⟩
end
abbrev mV (C D:Addr):List Value:=[.ref C,.ref D,.type "ValueError",.type "Exception",.type "BaseException",.type "object"]
structure dR (K:W.Frag) (C D:Addr):Prop where
 at_:∃ cd,W.clsIn K C=some cd/\cd.hasDict=true/\cd.mro=mV C D
 sa:W.findIn K (.ref C) "__setattr__"=some (some (.builtin "object.__setattr__"))
 ga:W.findIn K (.ref C) "__getattribute__"=some (some (.builtin "BaseException.__getattribute__"))
 gh:W.findIn K (.ref C) "__getattr__"=some none
section
variable {prog:Program}{w:World}{A:Around}{E:Value->Shared->Prop}{R:Result->Shared->Prop}{s:Shared}{K:W.Frag}{x C D:Addr}{ox:Obj}{od:Option Obj}{name:Str}{v:Value}{tk:Tok}
theorem dR.sub {M:Model}{h:Heap}(W:dR K C D) (X:K.In h) {T:Value}{b:Bool}(e:(mV C D).contains T=b):PySem.W.Looks M h (isSubtype (.ref C) T) b:=by
 obtain ⟨cd,hc,_,hm⟩:=W.at_;refine PySem.W.looks_mroIn X ?_;unfold PySem.W.mroIn;rw [hc,rf,hm,ar (by simp),e]
theorem aO7 (X:K.In s.heap) (I:PySem.W.InstAt s.heap x ox C od) (W:dR K C D) (hn:PySem.W.findIn K (.ref C) name=some none)
  (h:∀ b,wpAny (model prog w) A.in1 (Builtin.ObjectAttr.storeInOwnDict (.ref x) (.ref C) (.str name tk) name v b)
   (fun fin s'=>match fin with | .done f=>R (.ok f) s' | .again c'=>c'.quiet=true/\codeAny (model prog w) A c' R s') (fun e s'=>R (.error e) s') s) :
  codeAny (model prog w) A (.call (.builtin "object.__setattr__") ⟨[.ref x,.str name tk,v],[]⟩) R s:=by
 have Z:=PySem.F.store_object;obtain ⟨cd,hc,_,hm⟩:=W.at_;have own:PySem.W.Looks (model prog w) s.heap (isInstance (.ref x) (.type "object")) true:=I.type.andThen (W.sub X (by simp));have mro:PySem.W.Looks (model prog w) s.heap (mroOf (.ref C)) (mV C D):=by rw [<- hm];exact (pe X hc).andThen .now
 refine on Z.slot.plain Z.entry (@PySem.W.check_slot (model prog w) _ _ s "object.__setattr__" "object" "__setattr__" (.ref x) [.str name tk,v] [] _ Z.kind Z.split own (Z.args (.ref x) (.str name tk) v) ?_);rw [PySem.W.osa_eq,refuse_eq];refine aa (aa (I.type.here (aa (mro.here ?_))));rw [refuseLoop_ref,refuseLoop_ref,PySem.F.store_ValueError.passes];exact am (aa (I.type.here (aa ((jq X hn).here (aa (am (h _)))))))
theorem aS3 {Q:Unit->Shared->Prop}(X:K.In s.heap) (hx:s.heap.get? x=some ox) (hc:ox.cls= .ref C) (hno:PySem.W.notCls ox=true) (hd:ox.dict=none) (W:dR K C D) (hn:PySem.W.findIn K (.ref C) name=some none)
  (h:∀ h',h'.Ns1 s.heap.objs.size (fun y=>if y=name then some v else none)->Heap.SameBut s.heap.objs.size ((s.heap.push PySem.W.emptyDict).update x fun o=>{ o with dict:=some s.heap.objs.size }) h'->Q () { s with heap:=h',toks:=s.toks+2 }) :
  wpAny (model prog w) A (setAttr (.ref x) name v) Q E s:=by
 have I:PySem.W.InstAt s.heap x ox C none:=⟨hx,hc,hno,by rw [hd];trivial⟩
 refine PySem.W.set_plain X I W.sa (aO7 (s:={ s with toks:=s.toks+1 }) X I W hn fun b=>?_);obtain ⟨cd,hcd,hdi,_⟩:=W.at_;obtain ⟨oc,odi,oda,osl⟩:=ox
 dsimp only at hc hd
 subst hc hd;have hx1:=af PySem.W.emptyDict hx;have nd:((s.heap.push PySem.W.emptyDict).update x fun o=>{ o with dict:=some s.heap.objs.size }).Ns s.heap.objs.size (fun _=>none):=by
  have ne:x≠s.heap.objs.size:=av (al hx);exact ⟨PySem.W.emptyDict, #[],_,(cu _ _ _ _ ne.symm).trans (bn _ rfl),rfl,fun e he=>absurd he (by simp),fun _=>rfl⟩
 refine aa (am (aa (aa (wpAny_loadPart hx (aa (PySem.W.Looks.here (s:={ s with toks:=s.toks+1 }) (pe X hcd) ?_))))));rw [hdi];have hne:s.heap.objs.size≠x:=fu (al hx);have go:wpAny (model prog w) A.in1 (do
   let d <- alloc { cls:= .type "dict",data:= .dict #[] }
   update x fun o=>{ cls:=o.cls,dict:=some d,data:=o.data,slots:=o.slots }
   dictMade (.ref C) x d) (fun a s'=>a=some s.heap.objs.size/\s'={ s with heap:=(s.heap.push PySem.W.emptyDict).update x fun o=>{ o with dict:=some s.heap.objs.size },toks:=s.toks+1 }) (fun _ _=>False) { s with toks:=s.toks+1 }:=by
  refine aa (wpAny_alloc ?_);refine aa (wpAny_update (s:={ s with heap:=s.heap.push PySem.W.emptyDict,toks:=s.toks+1 }) hx1 ?_);exact am ⟨rfl,rfl⟩
 have fin:∀ (a:Option Addr) (s':Shared),a=some s.heap.objs.size/\s'={ s with heap:=(s.heap.push PySem.W.emptyDict).update x fun o=>{ o with dict:=some s.heap.objs.size },toks:=s.toks+1 } ->
   wpAny (model prog w) A.in1 (match a with | some d=>Builtin.ObjectAttr.storeInDict d (.str name s.toks) name v | none=>Builtin.ObjectAttr.noDictFor (.ref x) (.ref C) name b)
    (fun fin s'=>match fin with
     |.done f=>(match (Except.ok f:Result) with | .ok (.ret v)=>Q () s' | .ok a=>False | .error e=>E e s')
     |.again c'=>c'.quiet=true/\codeAny (model prog w) A c' (fun r s'=>match r with | .ok (.ret v)=>Q () s' | .ok a=>False | .error e=>E e s') s')
    (fun e s'=>match (Except.error e:Result) with | .ok (.ret v)=>Q () s' | .ok a=>False | .error e=>E e s') s':=by
  rintro a s' ⟨rfl,rfl⟩;refine aa (am (aa ?_));refine wpAny_nsSet1 (qv nd) fun h' n1 sb=>?_
  obtain ⟨oD,eD,pD,hoD,dD,cD⟩:=n1.count (PySem.Within.cons name v PySem.Within.nil);refine aa (wpAny_lookBehind hoD (by rw [dD];exact pastItsLine_dict (aj cD (by rw [ef,jm,jx];omega))) ?_);exact am (h h' n1 sb)
 cases oda <;> first | exact bi go fin (fun _ _ z=>z.elim) | cases hno
theorem aW1 (X:K.In s.heap) (I:PySem.W.InstAt s.heap x ox C od) (W:dR K C D)
  (h:wpAny (model prog w) A.in1 (Builtin.«object.__getattribute__» ⟨[.ref x,.str name tk],[]⟩) (fun fin s'=>match fin with | .done f=>R (.ok f) s' | .again c'=>c'.quiet=true/\codeAny (model prog w) A c' R s') (fun e s'=>R (.error e) s') s) :
  codeAny (model prog w) A (.call (.builtin "BaseException.__getattribute__") ⟨[.ref x,.str name tk],[]⟩) R s:=by
 have base:PySem.W.Looks (model prog w) s.heap (isInstance (.ref x) (.type "BaseException")) true:=I.type.andThen (W.sub X (by simp));exact on PySem.F.excAttr_ValueError.ga.plain PySem.F.entry_bexc_ga
  (@PySem.W.check_slot (model prog w) _ _ s "BaseException.__getattribute__" "BaseException" "__getattribute__" (.ref x) [.str name tk] [] _ (by decide +kernel) (by decide +kernel) base (PySem.F.args_bexc_ga _ _) h)
theorem xby {Q:Value->Shared->Prop}{fill expr:Bool}(X:K.In s.heap) (I:PySem.W.InstAt s.heap x ox C od) (W:dR K C D) (hh:PySem.W.handedIn v=true)
  (h:∀ P:Value->Shared->Prop,P v s->wpAny (model prog w) A.in1 (Builtin.«object.__getattribute__» ⟨[.ref x,.str name tk],[]⟩) (fun fin s'=>match fin with | .done (.ret u)=>P u s' | _=>False) (fun _ _=>False) s)
  (q:Q v s):wpAny (model prog w) A (getAttrBy (.ref x) (.str name tk) fill expr) Q E s:=by
 obtain ⟨hp,g,d,t,os⟩:=s;have L0:=I.type (M:=model prog w);have L1:=jq (M:=model prog w) X W.ga;have L2:=jq (M:=model prog w) X W.gh;unfold getAttrBy;refine gf (aa (L0.at (aa (L1.at ?_))));show wpAny _ _ (getAttrByItsOwn _ _ _ _ _ _) _ _ _;refine aa (L2.at (aa (wpAny_attempt (gf ?_))));have e0:callGetattribute (.ref x) (.str name tk) (.builtin "BaseException.__getattribute__") expr=boundAndCalled (.builtin "BaseException.__getattribute__") (.ref x) (.str name tk):=by cases expr <;> rfl
 rw [e0];unfold boundAndCalled;rw [PySem.F.excAttr_ValueError.ga.bind];refine aa (am (oj (aW1 X I W (bi (h (fun u s'=>wpAny (model prog w) A (handedOut u) Q E s') ?_) (fun fin s' z=>?_) fun _ _ z=>z.elim))))
 ·rw [PySem.W.handedOut_of hh];exact am q
 ·rcases fin with (_ | _ | _ | _) | _ <;> first | exact z | exact z.elim
theorem aX5 {Q:Value->Shared->Prop}{expr:Bool}(X:K.In s.heap) (I:PySem.W.InstAt s.heap x ox C od) (W:dR K C D) (hf:PySem.W.findObj K C od name=some (.value v)) (hh:PySem.W.handedIn v=true)
  (h:Q v { s with toks:=s.toks+1 }):wpAny (model prog w) A (getAttr (.ref x) name expr) Q E s:=by
 obtain ⟨hp,g,d,t,os⟩:=s;unfold getAttr;refine aa (wpAny_mkText (xby (s:=⟨hp,g,d,t+1,os⟩) X I W hh (fun P p=>?_) h));have L0:=I.type (M:=model prog w);have L3:=PySem.W.looks_find (M:=model prog w) X I hf;refine aa (am (aa (am (aa (L0.at (aa (L3.at ?_)))))));exact am p
end
section
variable {X:Cx}{pins:List (Addr×Obj)}{σ: St}{H:Hp}{s:Shared}{a C D dx:Addr}{fs:List (Str×V)}{f:Str}{v:V}{A:Around}{E:Value->Shared->Prop}
theorem aD1 (I:aL X pins σ H s) (e:H a=some (XD a C dx)):∃ o,s.heap.get? a=some o/\o.cls= .ref C/\W.notCls o=true/\o.dict=some dx :=
 (show bL X.prog X.w H s.heap a (XD a C dx) from I.hok a _ e).1
theorem aS1 (I:aL X pins σ H s) (e:H dx=some (XM dx fs)):∃ mA,s.heap.Ns1 dx mA/\(∀ f,iE (fs.lookup f) (mA f))/\PySem.Within mA (fs.map (·.1)) :=
 (show bL X.prog X.w H s.heap dx (XM dx fs) from I.hok dx _ e).1
def aC5 (K:W.Frag) (ta:TE) (f:Str):TE:=fun σ H Q=>ta σ H fun x H1=>∃ a C D dx fs v,x= .ref a/\H1 a=some (XD a C dx)/\H1 dx=some (XM dx fs)/\dR K C D/\nY K C f/\fs.lookup f=some v/\Q v H1
theorem yY {e:Expr}{pos:Pos}{ta:TE}(he:PE X e ta) (hb:attributeBase e f X.env (eval e X.env)=eval e X.env):PE X (.Attribute e f pos) (aC5 X.K ta f):=by
 intro pins s σ H Q I h;refine yO hb (bZ (he pins s σ H _ I h) ?_);rintro u s1 ⟨x,H1,I1,rx,a,C,D,dx,fs,v,ex,ea,ed,W,n,l,q⟩;subst ex;obtain rfl:u=Value.ref a:=rx;obtain ⟨o,h1,h2,h3,h4⟩:=aD1 I1 ea;obtain ⟨mA,nd,r,_⟩:=aS1 I1 ed;obtain ⟨od,ho,hl⟩:=mI nd;obtain ⟨u,hu,ru⟩:=iE.some_of (v:=v) (o:=mA f) (by rw [<- l];exact r f);have J:PySem.W.InstAt s1.heap a o C (some od):=⟨h1,h2,h3,by rw [h4];exact ho⟩
 obtain ⟨cd,hc,hd,_⟩:=W.at_;have hh:PySem.W.hasDictIn X.K C=true:=by unfold PySem.W.hasDictIn;rw [hc];exact hd
 exact aX5 I1.kIn J W (PySem.W.findObj_own hh n rfl (by rw [hl,hu])) (tZ ru) ⟨v,H1,I1.tok _,ru,q⟩
end
theorem aA5 {K:W.Frag}{h:Heap}{a:Addr}{m:Str->Option Value}{n:Str}{r:Option Value}(X:K.In h) (G:h.Ns a m) (e:W.nsIn K a n=some r):m n=r:=by
 obtain ⟨o,es,ep,ho,hd,_,hf⟩:=G;rw [<- hf];unfold nsFind findBy;rw [<- pi];unfold W.nsIn at e
 split at e
 ·rename_i q
  have z:=(X _ _ q).symm.trans ho
  cases z
  cases hd
  split at e
  ·rename_i he
   cases e
   rw [he];rfl
  ·rename_i he
   split at e
   ·cases e
   ·cases e
    rw [he];rfl
 ·cases e
section
variable {prog:Program}{w:World}{A:Around}{E:Value->Shared->Prop}{h:Heap}{g:Array GenState}{d:Drawn}{t:Nat}{os:OsState}
variable {nm q:Str}{C N fI:Addr}{bs bm bmB bmN:List Value}{hdct:Bool}{sn:List Str}{sub:List Value}{ab:Bool}{col:Option Bool}{dd:Option Addr}{k0 k1 k2 k3 k5:Option Value}{B Bn newId nid inN initId:String}
end
abbrev yD:List Value:=[.type "ValueError",.type "Exception",.type "BaseException",.type "object"]
structure XMk (K:W.Frag) (C D:Addr) (i:Option Value):Prop where
 kp:W.keepIn K (.ref C)=true
 cls:∃ (nm q:Str) (N:Addr) (bs:List Value) (hdct:Bool) (sn:List Str) (sub:List Value) (ab:Bool) (col:Option Bool) (dd:Option Addr) (k0 k1 k2 k3 k5:Option Value) (Bn newId inN:String) (bmN:List Value),ExcBaseFacts Bn newId inN bmN/\yD.contains (.type Bn)=true /\
  K.lookup C=some (excClassObj nm q C N bs (.ref D :: yD) hdct sn sub ab col dd k0 k1 k2 k3 k5 newId)/\dS K N=true/\W.nsIn K N "__init__"=some i
 up:∃ (c0:Value) (dd:Option Addr) (cd:ClassData) (sl:Array (Option Value)),K.lookup D=some ⟨c0,dd,.cls cd,sl⟩/\dS K cd.ns=true/\W.nsIn K cd.ns "__init__"=some none
theorem XMk.tail {K:W.Frag}{C D:Addr}{i:Option Value}{h:Heap}(M:XMk K C D i) (X:K.In h):OwnTail h yD (.ref D :: yD):=by
 obtain ⟨c0,dd,cd,sl,l,tx,n⟩:=M.up;obtain ⟨m,hm⟩:=lM X tx;exact .own (X _ _ l) hm (aA5 X hm n) .base
section
variable {X:Cx}{CX:CXT}{k:Nat}{f C D:Addr}{fd:FuncData}{ps:List Str}{sp:Sp}{E:XK}{x:Str}{p pos:Pos}{e:Expr}{es:List Expr}{t:TA}
end
theorem dR.subIn {K:PySem.W.Frag}{C D:Addr}(W:dR K C D) (T:Value):PySem.W.subIn K (.ref C) T=some ((mV C D).contains T):=by
 obtain ⟨cd,hc,_,hm⟩:=W.at_;show PySem.W.mroIn K C T=_;unfold PySem.W.mroIn;rw [hc,rf,hm,ar (by simp)]
theorem zU {K:W.Frag}{C D N:Addr}{nm q:Str}{bs:List Value}{sn:List Str}{sub:List Value}{ab:Bool}{col:Option Bool}{dd:Option Addr}{k0 k1 k2 k3 k5:Option Value}{newId:String}
  (l:K.lookup C=some (excClassObj nm q C N bs (.ref D :: yD) true sn sub ab col dd k0 k1 k2 k3 k5 newId)) (sa:W.findIn K (.ref C) "__setattr__"=some (some (.builtin "object.__setattr__")))
  (ga:W.findIn K (.ref C) "__getattribute__"=some (some (.builtin "BaseException.__getattribute__"))) (gh:W.findIn K (.ref C) "__getattr__"=some none):dR K C D :=
 ⟨⟨_,by unfold W.clsIn;rw [l],rfl,rfl⟩,sa,ga,gh⟩
theorem aR5 {K:W.Frag}{C D N:Addr}{nm q:Str}{bs:List Value}{sn:List Str}{sub:List Value}{ab:Bool}{col:Option Bool}{dd:Option Addr}{k0 k1 k2 k3 k5 i:Option Value}
  {c0:Value}{dd':Option Addr}{cd:ClassData}{sl:Array (Option Value)}
  (l:K.lookup C=some (excClassObj nm q C N bs (.ref D :: yD) true sn sub ab col dd k0 k1 k2 k3 k5 "ValueError.__new__")) (kp:W.keepIn K (.ref C)=true) (tx:dS K N=true) (ni:W.nsIn K N "__init__"=some i)
  (lD:K.lookup D=some ⟨c0,dd',.cls cd,sl⟩) (tD:dS K cd.ns=true) (nD:W.nsIn K cd.ns "__init__"=some none):XMk K C D i :=
 ⟨kp,⟨nm,q,N,bs,true,sn,sub,ab,col,dd,k0,k1,k2,k3,k5,_,_,_,_,kl,by simp,l,tx,ni⟩,⟨c0,dd',cd,sl,lD,tD,nD⟩⟩
theorem sR {K:W.Frag}{N:Addr}{oc:Value}{od:Option Addr}{es:Array DictEntry}{n:Nat}{sl:Array (Option Value)}(l:K.lookup N=some ⟨oc,od,.dict es n,sl⟩) (h:(es.toList.all fun e=>match e.key with | .str _ _=>true | _=>false)=true):dS K N=true:=by
 unfold dS;rw [l];exact h
open PySem PySem.Spec PyProof.Rows PySem.W
def aM1 (h:Heap) (x C:Addr) (tb:Value):Prop:=∃ o vs,h.get? x=some o/\o.cls= .ref C/\o.dict= .none/\o.data= .fields vs/\vs[1]?=some tb
structure Kp (fs ch:List Addr) (h h':Heap):Prop where
 k:∀ b o,h.get? b=some o->b∉fs->b∉ch->h'.get? b=some o
 f:∀ b o,h.get? b=some o->b∈fs->b∉ch->∃ sl,h'.get? b=some { o with slots:=sl }
theorem Kp.any {fs ch:List Addr}{h h':Heap}(a:Kp fs ch h h') {b:Addr}{o:Obj}(e:h.get? b=some o) (n:b∉ch):∃ sl,h'.get? b=some { o with slots:=sl }:=by
 by_cases c:b∈fs
 ·exact a.f b o e c n
 ·exact ⟨o.slots,a.k b o e c n⟩
theorem Kp.trans {fs ch:List Addr}{h h1 h2:Heap}(a:Kp fs ch h h1) (b:Kp fs ch h1 h2):Kp fs ch h h2 :=
 ⟨fun c o e n m=>b.k c o (a.k c o e n m) n m,fun c o e n m=>by
  obtain ⟨sl,e1⟩:=a.f c o e n m;obtain ⟨sl2,e2⟩:=b.f c _ e1 n m;exact ⟨sl2,e2⟩⟩
theorem Kp.mono {fs ch ch':List Addr}{h h':Heap}(a:Kp fs ch h h') (s:∀ b∈ch,b∈ch'):Kp fs ch' h h':=⟨fun b o e n m=>a.k b o e n fun z=>m (s b z),fun b o e n m=>a.f b o e n fun z=>m (s b z)⟩
theorem Kp.kept {fs:List Addr}{h h':Heap}(k:∀ b o,h.get? b=some o->h'.get? b=some o):Kp fs [] h h':=⟨fun b o e _ _=>k b o e,fun b o e _ _=>⟨o.slots,k b o e⟩⟩
theorem aB1 {base:Heap}:∀ {l:List Env}{h h':Heap},h.FunFrames base l->(∀ b∈fE l,∀ o,h.get? b=some o->∃ sl,h'.get? b=some { o with slots:=sl })->h'.FunFrames base l
 |[],_,_,_,_=>by rw [Heap.FunFrames.eq_1];trivial
 |env :: l,h,h',ff,k=>by
  rw [Heap.FunFrames.eq_2] at ff ⊢;obtain ⟨h1,⟨L,o,h2,h3,h4,h5⟩,h6⟩:=ff;obtain ⟨sl,e⟩:=k L (gm.mpr ⟨env,bg,h2⟩) o h4;refine ⟨h1,⟨L,_,h2,h3,e,h5⟩,aB1 h6 fun b hb=>k b ?_⟩;obtain ⟨env',h7,h8⟩:=gm.mp hb;exact gm.mpr ⟨env',aq _ h7,h8⟩
section
variable {M:Model}{A:Around}{E:Value->Shared->Prop}{s:Shared}{base:Heap}{env:Env}{outer:List Env}{L x T C:Addr}{Q:Unit->Shared->Prop}
end
theorem bL.got {P:Program}{w:World}{H:Hp}{h:Heap}{a:Addr}{o:HO}(x:bL P w H h a o):∃ ob,h.get? a=some ob:=by
 cases o with
 |lst xs=>obtain ⟨_,_,_,_,e⟩:=x;exact ⟨_,e⟩
 |tup xs=>obtain ⟨_,_,_,o,e,_⟩:=x;exact ⟨_,e⟩
 |dK kvs=>obtain ⟨_,_,_,_,o,_,_,e,_⟩:=x;exact ⟨_,e⟩
 |dT kvs=>obtain ⟨_,_,_,_,o,_,_,e,_⟩:=x;exact ⟨_,e⟩
 |set S n=>obtain ⟨o,_,_,_,e,_⟩:=x;exact ⟨_,e⟩
 |ins C dx fs=>obtain ⟨_,_,_,e,_⟩:=x;exact ⟨_,e⟩
 |own y=>obtain ⟨_,e⟩:=x;exact ⟨_,e⟩
 |xd fs=>obtain ⟨_,⟨_,_,_,e,_⟩,_⟩:=x;exact ⟨_,e⟩
 |rng lo hi=>obtain ⟨_,_,_,e⟩:=x;exact ⟨_,e⟩
 |frz ob u=>obtain ⟨e,_⟩:=x;exact ⟨_,e⟩
 |tbl ps=>exact ⟨_,(show h.get? a=some _ from x)⟩
 |met f y=>exact ⟨_,(show h.get? a=some _ from x)⟩
 |ext φ=>obtain ⟨_,⟨_,e⟩,_⟩:=x;exact ⟨_,e⟩
theorem fF.none {P:Program}{w:World}{H:Hp}{h:Heap}{a:Addr}(x:fF P w H h) (e:h.get? a= .none):H a= .none:=by
 cases q:H a with
 |none=>rfl
 |some u =>
  obtain ⟨o,z⟩:=(x a u q).got;rw [e] at z
  cases z
section
variable {X:Cx}{pins:List (Addr×Obj)}{σ: St}{H:Hp}{s:Shared}
theorem dJ (hs:X.stack=X.env :: X.outer) (hf:X.env.frame=some X.env.locals) {b:Addr}:b∈fE X.stack↔b=X.env.locals\/b∈fE X.outer:=by
 rw [hs];unfold fE;rw [ig,hf];simp
theorem aL.hokK (I:aL X pins σ H s) {h':Heap}{ch:List Addr}(k:Kp (fE X.stack) ch s.heap h') (n:∀ b∈ch,H b= .none):fF X.prog X.w H h':=fun b u e=>by
 have nf:∀ c v,H c=some v->c∉fE X.stack/\c∉ch:=fun c v e=>⟨fun z=>(by rw [I.stkFree c z] at e;cases e),fun z=>(by rw [n c z] at e;cases e)⟩
 refine (I.hok b u e).stay (fun c v hc q=>?_) (fun c q=>q) fun c xs q=>q
 rcases hc with z | z
 ·rw [z] at q ⊢;exact k.k _ _ q (nf b u e).1 (nf b u e).2
 ·exact k.k _ _ q (nf c _ z).1 (nf c _ z).2
end
structure aG8 (X:Cx) (pins:List (Addr×Obj)) (x:Addr):Prop where
 s0:X.s₀.heap.get? x= .none
 loc:x≠X.env.locals
 cel:∀ y c,X.env.cells.lookup y=some c->c≠x
 pin:∀ p∈X.pn++pins,p.1≠x
 fr:x∉fE X.stack
section
variable {X:Cx}{pins:List (Addr×Obj)}{σ: St}{H:Hp}{s:Shared}{x:Addr}
theorem aL.away (I:aL X pins σ H s) (hex:X.ex=[]) (e:s.heap.get? x= .none):aG8 X pins x where
 s0:=by
  cases q:X.s₀.heap.get? x with
  |none=>rfl
  |some o =>
   obtain ⟨o',z⟩:=I.base.there x o q (by rw [hex];simp);rw [e] at z;cases z
 loc:=fun z=>by
  obtain ⟨m,⟨o,es,ep,ho,_⟩,_⟩:=I.loc;rw [<- z,e] at ho;cases ho
 cel:=fun y c hc z=>by
  obtain ⟨v,o,ho,_⟩:=I.cell y c hc;rw [z,e] at ho;cases ho
 pin:=fun p hp z=>by
  have:=(I.pin p hp).1;rw [z,e] at this;cases this
 fr:=fun z=>by
  obtain ⟨_,o,ho,_⟩:=I.stack.mem z;rw [e] at ho;cases ho
theorem aL.nopins (I:aL X pins σ H s):aL X [] σ H s:=⟨I.ok,I.os,I.bare,I.base,I.loc,I.cell,I.free,I.freeC,fun p hp=>I.pin p (by simp at hp ⊢;exact .inl hp),I.hok,I.len⟩
theorem aL.move (I:aL X pins σ H s) (hs:X.stack=X.env :: X.outer) (hf:X.env.frame=some X.env.locals) (hex:X.ex=[]) {h':Heap}{H':Hp}{ch:List Addr}(aw:∀ b∈ch,aG8 X pins b) (k:Kp (fE X.stack) ch s.heap h') (hn:∀ b,b∉ch->H' b=H b) (hc:∀ b∈ch,H b= .none)
  (hok:fF X.prog X.w H' h'):aL X pins σ H' { s with heap:=h' }:=by
 have ns0:∀ b o,X.s₀.heap.get? b=some o->b∉ch:=fun b o e z=>by rw [(aw b z).s0] at e;cases e
 have neL:∀ b o,X.s₀.heap.get? b=some o->b≠X.env.locals:=fun b o e=>av (ai (al e) I.ok.above)
 have nch:∀ b u,H b=some u->b∉ch:=fun b u e z=>by rw [hc b z] at e;cases e
 have lnc:X.env.locals∉ch:=fun z=>(aw _ z).loc rfl
 have cell:∀ y c v,X.env.cells.lookup y=some c->s.heap.IsCell c v->h'.IsCell c v:=fun y c v hy ⟨o,ho,hd⟩=>by
  obtain ⟨sl,e⟩:=k.any ho (fun z=>(aw c z).cel y c hy rfl);exact ⟨_,e,hd⟩
 refine ⟨I.ok,I.os,I.bare,⟨fun b o e n nb nx=>?_,fun b o e n hb nx=>?_,fun b o e n nx=>?_,fun b o e nx=>?_,fun b xs e=>?_,fun b o u e=>?_,fun b ps e=>?_⟩,?_,fun y c hy=>?_,?_,fun y c hy=>?_,fun p hp=>?_,hok,I.len⟩
 ·exact k.k b o (I.base.keep b o e n nb nx) (fun z=>by
   rcases (dJ hs hf).mp z with z | z
   ·exact neL b o e z
   ·exact nb z) (ns0 b o e)
 ·obtain ⟨sl,e1⟩:=I.base.slot b o e n hb nx;obtain ⟨sl',e2⟩:=k.f b _ e1 ((dJ hs hf).mpr (.inr hb)) (ns0 b o e);exact ⟨sl',e2⟩
 ·rw [hn b (ns0 b o e)];exact I.base.free b o e n nx
 ·obtain ⟨o',e1⟩:=I.base.there b o e nx;obtain ⟨sl,e2⟩:=k.any e1 (ns0 b o e);exact ⟨_,e2⟩
 ·have q:=I.base.tups b xs e;rw [hn b (nch b _ q)];exact q
 ·have q:=I.base.frzs b o u e;rw [hn b (nch b _ q)];exact q
 ·obtain ⟨more,q⟩:=I.base.tbls b ps e;exact ⟨more,by rw [hn b (nch b _ q)];exact q⟩
 ·obtain ⟨m,⟨o,es,ep,ho,r⟩,lk⟩:=I.loc;obtain ⟨sl,e⟩:=k.any ho lnc;refine ⟨m,⟨_,es,ep,e,r⟩,fun i y v h1 h2 h3=>?_⟩;obtain ⟨u,ru,l⟩:=lk i y v h1 h2 h3;refine ⟨u,ru,?_⟩;rcases l with l | ⟨l1,c,l2,l3⟩
  ·exact .inl l
  ·exact .inr ⟨l1,c,l2,cell y c _ l2 l3⟩
 ·obtain ⟨v,hv⟩:=I.cell y c hy;exact ⟨v,cell y c v hy hv⟩
 ·rw [hn _ lnc];exact I.free
 ·rw [hn c fun z=>(aw c z).cel y c hy rfl];exact I.freeC y c hy
 ·obtain ⟨p1,p2,p3,p4,p5⟩:=I.pin p hp;have pc:p.1∉ch:=fun z=>(aw _ z).pin p hp rfl
  refine ⟨k.k _ _ p1 (fun z=>?_) pc,by rw [hn _ pc];exact p2,p3,p4,p5⟩;rcases (dJ hs hf).mp z with z | z
  ·exact p3 z
  ·exact p4 z
theorem aL.unset {i:Nat}{n:Str}{h':Heap}{u:Option Value}{m:Str->Option Value}(I:aL X pins σ H s) (hN:X.N.Nodup) (hi:X.N[i]?=some n) (hl:X.env.kindOf n=some .local) (lk:∀ (i:Nat) (x:Str) (v:V),X.N[i]?=some x->σ[i]?=some (some v)->Vis X.env.scope x->∃ u,bG v u/\aT5 X.env s.heap m x u)
  (ns:h'.Ns X.env.locals (fun x=>if x=n then u else m x)) (sb:Heap.SameBut X.env.locals s.heap h'):aL X pins (σ.set i .none) H { s with heap:=h' }:=by
 have kp:∀ b o,b≠X.env.locals->s.heap.get? b=some o->h'.get? b=some o:=fun b o hb e=>(sb.2 b hb).trans e
 have neL:∀ b o,X.s₀.heap.get? b=some o->b≠X.env.locals:=fun b o e=>av (ai (al e) I.ok.above)
 have cell:∀ c v,s.heap.IsCell c v->h'.IsCell c v:=fun c v ⟨o,ho,hd⟩=>⟨o,kp c o (fun z=>by
  obtain ⟨m',⟨o',es,ep,ho',hd',_⟩,_⟩:=I.loc;rw [z,ho'] at ho
  cases ho
  rw [hd'] at hd
  cases hd) ho,hd⟩
 refine ⟨I.ok,I.os,I.bare,⟨fun b o e n nb nx=>kp b o (neL b o e) (I.base.keep b o e n nb nx),fun b o e n hb nx=>?_,I.base.free,fun b o e nx=>?_,I.base.tups,I.base.frzs,I.base.tbls⟩,⟨_,ns,fun j y v h1 h2 h3=>?_⟩,fun y c hy=>?_,I.free,I.freeC,fun p hp=>?_,fun b v e=>?_,by rw [List.length_set];exact I.len⟩
 ·obtain ⟨sl,e1⟩:=I.base.slot b o e n hb nx;exact ⟨sl,kp b _ (neL b o e) e1⟩
 ·obtain ⟨o',e1⟩:=I.base.there b o e nx;exact ⟨o',kp b o' (neL b o e) e1⟩
 ·by_cases c:j=i
  ·subst c;rw [List.getElem?_set_self'] at h2
   cases hq:σ[j]? with
   |none=>rw [hq] at h2;cases h2
   |some z=>rw [hq] at h2;cases h2
  ·rw [jj (fun z=>c z.symm)] at h2;obtain ⟨w',rw',l⟩:=lk j y v h1 h2 h3;refine ⟨w',rw',?_⟩;rcases l with ⟨l1,l2⟩ | ⟨l1,cc,l2,l3⟩
   ·refine .inl ⟨l1,?_⟩;show (if y=n then u else m y)=some w';rw [ar (show ¬ y=n from fun z=>c ?_)]
    ·exact l2
    ·rw [z] at h1;have a1:=(bu.mp h1)
     have a2:=(bu.mp hi)
     exact (qz hN).mp (a1.2.trans a2.2.symm)
   ·exact .inr ⟨l1,cc,l2,cell cc _ l3⟩
 ·obtain ⟨v,hv⟩:=I.cell y c hy;exact ⟨v,cell c v hv⟩
 ·obtain ⟨p1,p2,p3,p4,p5⟩:=I.pin p hp;exact ⟨kp _ _ p3 p1,p2,p3,p4,p5⟩
 ·refine (I.hok b v e).stay (fun c o hc q=>kp c o ?_ q) (fun c q=>q) fun c xs q=>q
  rcases hc with z | z
  ·rw [z];intro z2;rw [z2,I.free] at e;cases e
  ·intro z2;rw [z2,I.free] at z;cases z
abbrev Cx.hand (X:Cx) (x:Addr):Cx:={ X with A:=X.A.mark (some (.ref x)),calm:=false,xe:=fun _ _=>False }
theorem aL.hand (I:aL X pins σ H s) (x:Addr):aL (X.hand x) pins σ H s :=
 ⟨⟨I.ok.mod,I.ok.kind,I.ok.glob,I.ok.blt,I.ok.above,I.ok.inj,I.ok.has,I.ok.cab,(fun z=>nomatch z),I.ok.frames,I.ok.stk,I.ok.exf,I.ok.bs,I.ok.bsz,I.ok.noex,I.ok.exfs,I.ok.funs,I.ok.frf⟩,I.os,I.bare,I.base,I.loc,I.cell,I.free,I.freeC,I.pin,I.hok,I.len⟩
theorem aL.unhand {x:Addr}(ok:X.Ok) (I:aL (X.hand x) pins σ H s):aL X pins σ H s:=⟨ok,I.os,I.bare,I.base,I.loc,I.cell,I.free,I.freeC,I.pin,I.hok,I.len⟩
end
structure XUp (K:W.Frag) (D:Addr):Prop where
 ty:typeIn K (.ref D)=some (.type "type")
 cl:(clsIn K D).isSome=true
 be:subIn K (.ref D) (.type "BaseException")=some true
theorem lG {K:W.Frag}:subIn K (.type "type") (.type "tuple")=some false:=by
 show Option.map _ (fastBuiltinMro "type")=_
 decide +kernel
theorem rZ {M:Model}{K:W.Frag}{h:Heap}{D:Addr}(c:(clsIn K D).isSome=true) (X:K.In h):Looks M h (isType (.ref D)) true:=by
 obtain ⟨cd,hc⟩:=kx.mp c;unfold clsIn at hc
 split at hc
 ·rename_i ho
  intro A' Q' E' s' k q;unfold isType loadHead;exact aa (wpAny_loadPart (k _ _ (X _ _ ho)) (am q))
 ·cases hc
theorem aV6 {M:Model}{A:Around}{E:Value->Shared->Prop}{s:Shared}{K:PySem.W.Frag}{x C D:Addr}{tb:Value}{Q:Bool->Shared->Prop}(kin:K.In s.heap) (U:XUp K D) (W:dR K C D) (e:aM1 s.heap x C tb) (q:Q true s):wpAny M A (excMatches (.ref x) (.ref D)) Q E s:=by
 obtain ⟨o,vs,e1,e2,e3,e4,e5⟩:=e;have J:InstAt s.heap x o C .none:=⟨e1,e2,by unfold notCls;rw [e4],by rw [e3];trivial⟩
 unfold excMatches;refine aa ?_;unfold isInstance;refine aa ((looks_typeIn kin U.ty).here ((looks_subIn kin lG).here ?_));rw [ar (by simp)];refine aa (am ?_);refine aa ?_;rw [io];refine aa ?_;unfold isExcClass;refine aa (aa ((rZ U.cl kin).here ?_));rw [bj rfl];refine (looks_subIn kin U.be).here ?_;rw [ar (by simp)];refine am ?_
 dsimp only
 rw [ny];refine am (aa (J.type.here ?_));refine aa ?_;rw [io];refine aa (aa ((looks_subIn kin (W.subIn (.ref D))).here ?_));rw [bj (by simp [mV])];exact am (am (am q))
section
variable {X:Cx}
def PS0 (X:Cx) (st:Stmt) (t:TS):Prop:=∀ (s:Shared) (σ: St) (H:Hp) (D:dQ),aL X [] σ H s->t D σ H->wpAny (model X.prog X.w) X.A (exec st X.env) (SP X [] D) X.xe s
def pQ (X:Cx) (st:List Stmt) (t:TS):Prop:=∀ (s:Shared) (σ: St) (H:Hp) (D:dQ),aL X [] σ H s->t D σ H->wpAny (model X.prog X.w) X.A (execs st X.env) (SP X [] D) X.xe s
theorem PS.p0 {st:Stmt}{t:TS}(h:PS X st t):PS0 X st t:=fun s σ H D I q=>h [] s σ H D I q
theorem kE.p0 {st:List Stmt}{t:TS}(h:kE X st t):pQ X st t:=fun s σ H D I q=>h [] s σ H D I q
theorem sJ {st:Stmt}{rest:List Stmt}{t u:TS}(h1:PS0 X st t) (h2:pQ X rest u):pQ X (st :: rest) (aF4 t u):=by
 intro s σ H D I h;refine kr (bZ (h1 s σ H { D with nx:=u D } I h) fun f s1 q=>?_)
 cases f with
 |next =>
  obtain ⟨σ',H',I',q⟩:=q;exact h2 s1 σ' H' D I' q
 |ret v=>exact q
 |brk=>exact q
 |cont=>exact q
theorem pQ.nox {st:List Stmt}{t:TS}(h:pQ X.nox st t):pQ X st t:=fun s σ H D I q =>
 bi (h s σ H D (I.wish _) q) (fun f s' z=>SP.unwish z) fun _ _ z=>z.elim
end
section
variable {P:Program}{w:World}{K:W.Frag}{mg:Str->Option Value}{base:Heap}
theorem lO.ok0 {x qual:Str}{st:Stmt}{f:Addr}{fd:FuncData}{N ps:List Str}{k:Nat}{sp:Sp}(F:lO K x qual st f fd) (S:eB N ps (aI st)) (len:∀ vs H Q E,sp vs H Q E->vs.length=ps.length)
  (hbody:∀ (cdv:Value) (A:Around) (outer:List Env) (s:Shared) (H:Hp) (vs:List V) (Q:VK) (E:XK),cF k (A.deeper (envOfC qual (aI st) s.heap.objs.size f cdv))->sp vs H Q E ->
   ∃ t,pQ (dP qM P w K mg base N qual (aI st) f cdv A outer s H E).nox (aS st) t/\t { nx:=fun _ H'=>Q .non H',rt:=Q } (dX N vs) H):fU P w K mg base qM (k+1) f fd ps sp:=by
 obtain ⟨oc,od,kV,doc,pm,an,cdv,ct,osl,rfl,lk,hcd⟩:=F.ex;refine ⟨len,fun A outer s H args us vs Q E hr e0 hb r hsp=>?_⟩;have hl:=len _ _ _ _ hsp;have KX:K.In s.heap:=e0.mod.kin.keeps fun b o e=>(e0.bs b o e).1
 have lim:s.heap.NoLimit:=e0.mod.nolimit.keeps fun b o e=>(e0.bs b o e).1
 have hkind:∀ y∈ps.zip us,(aI st).names.lookup y.1=some .local\/((aI st).names.lookup y.1=some .cell/\((cellsFrom (s.heap.objs.size+1) (aI st).names []).lookup y.1).isSome=true):=fun ⟨n,v⟩ hy=>by
  rcases S.par n (jl hy).1 with q | q
  ·exact .inl q
  ·exact .inr ⟨q,W.cellsFrom_some _ _ _ (.inl q)⟩
 refine nr hr.depth (KX _ _ lk) rfl S.co S.gen rfl (W.codeRec_of KX hcd) (hb _ _ _ _ ?_);refine kh S.kind hkind fun env he s1 x=>?_
 subst he;refine ⟨lim.keeps x.toInCall.keep,codeAny_func ?_⟩;obtain ⟨t,ht,hq⟩:=hbody cdv A outer s H vs Q E (hr.deeper _) hsp;have I:aL (dP qM P w K mg base N qual (aI st) f cdv A outer s H E) [] (dX N vs) H s1:=mK S hr.hd e0 hl r x;refine bi (ht.nox s1 (dX N vs) H _ I hq) (fun fl s' hs=>?_) fun e s' hs=>hs
 have fin:∀ {σ':St}{H':Hp}{v:V}{u:Value},aL (dP qM P w K mg base N qual (aI st) f cdv A outer s H E) [] σ' H' s'->bG v u->Q v H'->CE outer P w H s Q u s' :=
  fun {σ' H' v u} J rv q=>⟨v,H',J.os,J.bare,J.base,J.hok,rv,q⟩
 cases fl with
 |ret u =>
  obtain ⟨v,σ',H',J,rv,q⟩:=hs;exact fin J rv q
 |next =>
  obtain ⟨σ',H',J,q⟩:=hs;exact fin (v:=V.non) (u:=Value.none) J rfl q
 |brk =>
  obtain ⟨_,_,_,q⟩:=hs;exact False.elim q
 |cont =>
  obtain ⟨_,_,_,q⟩:=hs;exact False.elim q
end
section
variable {X:Cx}{k:Nat}{f:Addr}{fd:FuncData}{ps:List Str}{sp:Sp}{x:Str}{p pos:Pos}{e:Expr}{es:List Expr}{t:TA}
end
open PySem PySem.Spec PyProof.Rows
def xX (a C:Addr):HO:= .ext fun h=>∃ o,h.get? a=some o/\o.cls= .ref C/\o.dict=none/\∃ t,o.data= .fields #[.ref t,.none,.none,.none,.bool false,.none]
def tJ (a C dx:Addr):HO:= .ext fun h=>∃ o,h.get? a=some o/\o.cls= .ref C/\o.dict=some dx/\∃ t,o.data= .fields #[.ref t,.none,.none,.none,.bool false,.none]
section
variable {P:Program}{w:World}{H:Hp}{h:Heap}{a C dx:Addr}
theorem aG3 (e:∃ o,h.get? a=some o/\o.cls= .ref C/\o.dict=none/\∃ t,o.data= .fields #[.ref t,.none,.none,.none,.bool false,.none]):bL P w H h a (xX a C) :=
 ⟨e,let ⟨o,h,_⟩:=e;⟨o,h⟩,(by rintro h1 h2 ⟨o,h,r⟩ k;exact ⟨o,k _ h,r⟩)⟩
theorem aG7 (e:∃ o,h.get? a=some o/\o.cls= .ref C/\o.dict=some dx/\∃ t,o.data= .fields #[.ref t,.none,.none,.none,.bool false,.none]):bL P w H h a (tJ a C dx) :=
 ⟨e,let ⟨o,h,_⟩:=e;⟨o,h⟩,(by rintro h1 h2 ⟨o,h,r⟩ k;exact ⟨o,k _ h,r⟩)⟩
end
section
variable {X:Cx}{pins:List (Addr×Obj)}{σ: St}{H:Hp}{s:Shared}{a C dx:Addr}{f:Str}
theorem zN (I:aL X pins σ H s) (e:H a=some (xX a C)):∃ o,s.heap.get? a=some o/\o.cls= .ref C/\o.dict=none/\∃ t,o.data= .fields #[.ref t,.none,.none,.none,.bool false,.none] :=
 (show bL X.prog X.w H s.heap a (xX a C) from I.hok a _ e).1
theorem sB (I:aL X pins σ H s) (e:H a=some (tJ a C dx)):∃ o,s.heap.get? a=some o/\o.cls= .ref C/\o.dict=some dx/\∃ t,o.data= .fields #[.ref t,.none,.none,.none,.bool false,.none] :=
 (show bL X.prog X.w H s.heap a (tJ a C dx) from I.hok a _ e).1
def aK7 (K:W.Frag) (ta tv:TE) (f:Str):TS:=fun D σ H=>tv σ H fun y H1=>ta σ H1 fun x H2=>∃ a C B,x= .ref a/\dR K C B/\nY K C f /\
 (H2 a=some (xX a C)/\∀ dx,H2 dx=none->D.nx σ (aN (aN (aN H2 dx (XM dx [])) a (tJ a C dx)) dx (XM dx [(f,y)])))
theorem vI {o value:Expr}{pos pos':Pos}{ta tv:TE}(ha:PE X o ta) (hv:PE X value tv) (hs:swapsWith value (some (.Attribute o f pos')) pos.line X.env=pure false):PS X (.Assign [.Attribute o f pos'] value pos) (aK7 X.K ta tv f):=by
 intro pins s σ H Dn I h;refine plainObj_wpAny_Assign_Attribute (bZ (hv pins s σ H _ I h) ?_) hs;rintro u s1 ⟨y,H1,I1,ry,q⟩;refine bZ (ha pins s1 σ H1 _ I1 q) ?_;rintro ov s2 ⟨x,H2,I2,rx,a,C,B,ex,W,n,q2⟩;subst ex;obtain rfl:ov=Value.ref a:=rx;obtain ⟨ea,q2⟩:=q2;obtain ⟨o',h1,h2,h4,tt,h5⟩:=zN I2 ea;have h3:PySem.W.notCls o'=true:=by unfold PySem.W.notCls;rw [h5]
 have hf:H2 s2.heap.objs.size=none:=I2.hok.fresh (ae _);have nea:a≠s2.heap.objs.size:=aK ea hf;refine aS3 I2.kIn h1 h2 h3 h4 W n fun h' n1 sb=>?_
 have e0:(s2.heap.push PySem.W.emptyDict).get? s2.heap.objs.size=some PySem.W.emptyDict:=bn s2.heap rfl;have n0:(s2.heap.push PySem.W.emptyDict).Ns s2.heap.objs.size (fun _=>none):=⟨PySem.W.emptyDict, #[],_,e0,rfl,(fun e he=>absurd he (by simp)),fun _=>rfl⟩
 have J1:=I2.laid (a:=s2.heap.objs.size) (o:=XM s2.heap.objs.size []) (h':=s2.heap.push PySem.W.emptyDict) (t':=s2.toks) (fun b u q=>af _ q) (ae _) (aA9 ⟨fun _=>none,qv n0,fun _=>dw,fun y hy=>absurd rfl hy⟩);have h1':=af PySem.W.emptyDict h1;have h1u:((s2.heap.push PySem.W.emptyDict).update a fun o=>{ o with dict:=some s2.heap.objs.size }).get? a=some { o' with dict:=some s2.heap.objs.size }:=by
  refine dy _ h1' ?_;have hfr:=(Heap.get?_some_iff.mp h1).2;obtain ⟨oc,od,odt,osl⟩:=o'
  cases odt <;> first | rfl | exact hfr
 have J2:=J1.write (x:=a) (e:=a) (o:=tJ a C s2.heap.objs.size) (h':=(s2.heap.push PySem.W.emptyDict).update a fun o=>{ o with dict:=some s2.heap.objs.size }) (t':=s2.toks) (by rw [aH nea,ea];exact dw) (.inl rfl)
  (fun b u hb q=>(cu _ _ _ _ hb).trans q) ⟨_,h1u⟩ (aG7 ⟨_,h1u,h2,rfl,tt,h5⟩)
 obtain ⟨oD,eD,pD,hoD,rD⟩:=id n1;have J3:=J2.write (x:=s2.heap.objs.size) (e:=s2.heap.objs.size) (o:=XM s2.heap.objs.size [(f,y)]) (h':=h') (t':=s2.toks+2) (by rw [aH nea.symm,aD];exact dw) (.inl rfl) (fun b u hb q=>(sb.2 b hb).trans q) ⟨_,hoD⟩
  (aA9 ⟨_,n1,fun g=>?_,fun g hg=>?_⟩)
 ·exact ⟨σ,_,J3,q2 _ hf⟩
 ·show iE (List.lookup g [(f,y)]) (if g=f then some u else none)
  by_cases z:g=f
  ·subst z;simp [List.lookup];exact ry
  ·have hb:(g == f)=false:=jv.mpr z;simp only [List.lookup,hb,if_neg z];exact dw
 ·by_cases z:g=f
  ·simp [z]
  ·exact absurd (ar z) hg
end
def sS (C:Addr) (sp:Sp) (E:XK) (t:TA):TE:=fun σ H Q=>t σ H fun vs H1=>vs.length<=sizeLine/\∀ x,H1 x=none->sp (.ref x :: vs) (aN H1 x (xX x C)) (fun v H2=>v= .non/\Q (.ref x) H2) E
section
variable {X:Cx}{CX:CXT}{k:Nat}{f C D:Addr}{fd:FuncData}{ps:List Str}{sp:Sp}{E:XK}{x:Str}{p pos:Pos}{e:Expr}{es:List Expr}{t:TA}
theorem aD6 {of:Obj}{pins:List (Addr×Obj)}{σ: St}{H:Hp}{s:Shared}{Q:VK}{us:List Value}{vs:List V}(M:XMk X.K C D (some (.ref f))) (lf:X.K.lookup f=some of) (hof:of.cls= .type "function") (F:fU X.prog X.w X.K X.mg X.base CX k f fd ps sp) (hr:cF (k+1) X.A) (hb:dO X.K fd ps [])
  (hx:fD CX X E) (I:aL X pins σ H s) (r:aV vs us) (h:vs.length<=sizeLine/\∀ x,H x=none->sp (.ref x :: vs) (aN H x (xX x C)) (fun v H2=>v= .non/\Q (.ref x) H2) E) :
  wpAny (model X.prog X.w) X.A (call (.ref C) us) (EP X pins σ Q) X.xe s:=by
 obtain ⟨nm,q,N,bs,hdct,sn,sub,ab,col,dd,k0,k1,k2,k3,k5,Bn,newId,inN,bmN,Fn,hBn,l,tx,ni⟩:=M.cls;obtain ⟨m,hm⟩:=lM I.kIn tx;have T:=M.tail I.kIn;obtain ⟨hz,h⟩:=h;have hq:=h (s.heap.objs.size+1) (I.hok.fresh (jf _));have I2:=I.laid (a:=s.heap.objs.size+1) (o:=xX (s.heap.objs.size+1) C) (h':=jB s.heap C us) (t':=s.toks) (fun b u q=>fK q) (jf _) (aG3 ⟨_,mG,rfl,rfl,_,rfl⟩);have r2:aV (V.ref (s.heap.objs.size+1) :: vs) (Value.ref (s.heap.objs.size+1) :: us):= .cons rfl r;have hl:(Value.ref (s.heap.objs.size+1) :: us++[]).length=ps.length:=by
  have e:=r2.length;rw [F.len _ _ _ _ hq] at e;rw [dm];exact e.symm
 have bd:=hb { s with heap:=jB s.heap C us } (Value.ref (s.heap.objs.size+1) :: us) I2.kIn hl;rw [dm] at bd;have run:=F.run _ X.stack _ _ ⟨Value.ref (s.heap.objs.size+1) :: us,[]⟩ (Value.ref (s.heap.objs.size+1) :: us) _ _ E (hr.make C us []) (I2.env0.make C us []) bd r2 hq;refine aD8 (h:=s.heap) Fn hBn kl T (I.kIn _ _ l) hm (aA5 I.kIn hm ni) (I.kIn _ _ lf) hof (by rw [<- r.length];exact hz) (oj (ku run fun r s' hq'=>?_))
 cases r with
 |error e=>exact hx pins σ _ _ e s' I2 hq'
 |ok fl =>
  cases fl with
  |ret u =>
   obtain ⟨v,H',I3,rv,ev,q3⟩:=I2.after hq';subst ev;exact ⟨rv,⟨V.ref (s.heap.objs.size+1),H',I3,rfl,q3⟩⟩
  |next=>exact False.elim hq'
  |brk=>exact False.elim hq'
  |cont=>exact False.elim hq'
theorem uF {of:Obj}(M:XMk X.K C D (some (.ref f))) (lf:X.K.lookup f=some of) (hof:of.cls= .type "function") (F:fU X.prog X.w X.K X.mg X.base CX k f fd ps sp) (hr:cF (k+1) X.A) (hg:Gl X x) (hm:X.mg x=some (.ref C)) (hb:dO X.K fd ps []) (hx:fD CX X E)
  (ha:PA X (e :: es) t) (hdb:autoParam ((x == ("__debug__": Str))=false) Rq1._auto_1) (he:autoParam (starEach (e :: es) X.env=(false,eval e X.env) :: starEach es X.env) Rq0._auto_1) (hpl:autoParam ((backTo pos (starEach es X.env)).any (·.1)=false) Rq0._auto_1) :
  PE X (.Call (.Name x p) (e :: es) [] pos) (sS C sp E t):=by
 intro pins s σ H Q I h;refine fw (kL I hg hm ?_ hdb);refine W.callWith_K (h₀:=X.base) I.ok.mod.kin M.kp (bZ (ha pos pins s σ H _ I h) ?_) he hpl;rintro us s1 ⟨vs,H1,I1,r,q⟩;refine ⟨I1.kIn,?_⟩;exact aD6 M lf hof F hr hb hx I1 r q
end
open PySem PySem.Spec PyProof.Rows PySem.W
def rM (h:Heap) (x C dx:Addr) (tb:Value):Prop:=∃ o vs,h.get? x=some o/\o.cls= .ref C/\o.dict=some dx/\o.data= .fields vs/\vs[1]?=some tb
def iK (h:Heap) (x T C dx:Addr) (fl:Value):Prop:=rM h x C dx (.ref T)/\T≠x/\∃ o ts,h.get? T=some o/\o.data= .fields ts/\ts[3]?=some fl
section
variable {M:Model}{A:Around}{E:Value->Shared->Prop}{s:Shared}{base:Heap}{env:Env}{outer:List Env}{L x T C dx:Addr}{Q:Unit->Shared->Prop}
theorem eA {fs:List Addr}{fl:Value}(hT:T∉fs) (F:iK s.heap x T C dx fl) (q:∀ h',Kp fs [T] s.heap h'->iK h' x T C dx .none->Q () { s with heap:=h' }):wpAny M A (setFlight (.ref x) .none) Q E s:=by
 obtain ⟨⟨o,vs,e1,e2,e3,e4,e5⟩,ne,oT,ts,f1,f2,f3⟩:=F;have sz:3 < ts.size:=(ie.mp f3).1;refine wpAny_setFlight_none e1 e4 e5 f1 f2 sz (q _ ⟨fun b u e _ n=>?_,fun b u e hb n=>⟨u.slots,?_⟩⟩ ⟨⟨o,vs,?_,e2,e3,e4,e5⟩,ne,_,_,dy _ f1 (jh (gq f2 _)),gq f2 _,?_⟩)
 ·rw [cu _ _ _ _ (by simpa using n)];exact e
 ·rw [cu _ _ _ _ (by simpa using n)];exact e
 ·rw [cu _ _ _ _ ne.symm];exact e1
 ·simp [sz]
theorem sW {head:Value}{hadNext:Bool}{tb:Value}(hA:A.frames=some (env :: outer)) (ff:s.heap.FunFrames base (env :: outer)) (hf:env.frame=some L) (ex:rM s.heap x C dx tb)
  (q:∀ h' T,Kp (fE (env :: outer)) [x] s.heap h'->s.heap.get? T= .none->T∉fE (env :: outer)->iK h' x T C dx (rawInt L)->Q () { s with heap:=h' }) :
  wpAny M A (do
   let a <- PySem.frameOf env
   let pl <- entryPlaceOf L hadNext
   let b <- EntryCells.newEntry head a Value.none (rawInt L) Value.none pl
   setField (Value.ref x) 1 b) Q E s:=by
 obtain ⟨o,vs,e1,e2,e3,e4,e5⟩:=ex;have nx:x∉fE (env :: outer):=fun z=>by
  obtain ⟨_,u,hu,hd⟩:=ff.mem z;rw [e1] at hu
  cases hu
  exact hd _ e4
 have sz:1 < vs.size:=(ie.mp e5).1;refine aa (wpAny_frameOf_fun hA ff hf fun h1 so=>?_);obtain ⟨z1,k1,sl1⟩:=so;refine aa (wpAny_entryPlaceOf fun pl hpl=>?_);refine aa (gt ?_ (hpl.sizeOk5 _ _ _ _ _));have ex1:(h1.push { cls:= .type "traceback",dict:= .none,data:= .fields ([head,Value.ref L,Value.none,rawInt L,Value.none]++if pl.isEmpty=true then List.replicate 6 Value.none else pl).toArray }).get? x=some o:=af _ ((k1 x nx).trans e1);refine wpAny_setField ex1 e4 sz ?_;have lt1:x < h1.objs.size:=al ((k1 x nx).trans e1);have neT:h1.objs.size≠x:=fu lt1;have fT:s.heap.get? h1.objs.size= .none:=by rw [z1];exact oh (ae _)
 refine q _ h1.objs.size ⟨fun b u e hn n=>?_,fun b u e hb n=>?_⟩ fT (fun z=>?_) ⟨⟨_,_,dy _ ex1 (jh (gq e4 _)),(Obj.cls_mapFields ..).trans e2,?_,gq e4 _,by simp [sz]⟩,neT,{ cls:= .type "traceback",dict:= .none,data:= .fields ([head,Value.ref L,Value.none,rawInt L,Value.none]++if pl.isEmpty=true then List.replicate 6 Value.none else pl).toArray },_,?_,rfl,?_⟩
 ·rw [cu _ _ _ _ (by simpa using n)];exact af _ ((k1 b hn).trans e)
 ·obtain ⟨sl,e'⟩:=sl1 b u e;refine ⟨sl,?_⟩;rw [cu _ _ _ _ (by simpa using n)];exact af _ e'
 ·obtain ⟨_,u,hu,_⟩:=ff.mem z;rw [fT] at hu
  cases hu
 ·obtain ⟨c,d,da,sl⟩:=o
  dsimp only at e3 e4
  subst e3 e4;rfl
 ·rw [cu _ _ _ _ neT];exact bn _ rfl
 ·simp
theorem uM (hA:A.frames=some (env :: outer)) (ff:s.heap.FunFrames base (env :: outer)) (hf:env.frame=some L) (ex:rM s.heap x C dx .none)
  (q:∀ h' T,Kp (fE (env :: outer)) [x] s.heap h'->s.heap.get? T= .none->T∉fE (env :: outer)->iK h' x T C dx (rawInt L)->Q () { s with heap:=h' }):wpAny M A (noteFrame (.ref x) env) Q E s:=by
 obtain ⟨o,vs,e1,e2,e3,e4,e5⟩:=id ex;unfold noteFrame;rw [hf];refine aa (qy e1 e4 e5 ?_);rw [ar (by simp)];exact sW hA ff hf ex q
theorem pR (hA:A.frames=some (env :: outer)) (ff:s.heap.FunFrames base (env :: outer)) (hf:env.frame=some L) (hT:T∉fE (env :: outer)) (F:iK s.heap x T C dx .none)
  (q:∀ h' T',Kp (fE (env :: outer)) [x,T] s.heap h'->s.heap.get? T'= .none->T'∉fE (env :: outer)->iK h' x T' C dx (rawInt L)->Q () { s with heap:=h' }):wpAny M A (noteFrame (.ref x) env) Q E s:=by
 obtain ⟨⟨o,vs,e1,e2,e3,e4,e5⟩,ne,oT,ts,f1,f2,f3⟩:=id F;have sz:3 < ts.size:=(ie.mp f3).1;unfold noteFrame;rw [hf];refine aa (qy e1 e4 e5 ?_);rw [bj (by simp)];refine aa (qy f1 f2 f3 ?_);rw [ar (by simp [rawInt])];refine aa (wpAny_setField f1 f2 sz ?_);have k1:Kp (fE (env :: outer)) [T] s.heap (s.heap.update T (Obj.mapFields fun y=>y.setIfInBounds 3 Value.none)):=⟨fun b u e _ n=>by rw [cu _ _ _ _ (by simpa using n)];exact e,fun b u e hb n=>⟨u.slots,by rw [cu _ _ _ _ (by simpa using n)];exact e⟩⟩
 have x1:(s.heap.update T (Obj.mapFields fun y=>y.setIfInBounds 3 Value.none)).get? x=some o:=by rw [cu _ _ _ _ ne.symm];exact e1
 have n1:∀ b,s.heap.get? b≠ .none->(s.heap.update T (Obj.mapFields fun y=>y.setIfInBounds 3 Value.none)).get? b≠ .none:=fun b hb=>by
  by_cases c:b=T
  ·subst c;rw [dy _ f1 (jh (gq f2 _))];simp
  ·rw [cu _ _ _ _ c];exact hb
 have ff1:(s.heap.update T (Obj.mapFields fun y=>y.setIfInBounds 3 Value.none)).FunFrames base (env :: outer):=aB1 ff fun b hb u e=>k1.f b u e hb (by simpa using fun z:b=T=>hT (z ▸ hb))
 generalize s.heap.update T (Obj.mapFields fun y=>y.setIfInBounds 3 Value.none)=h1 at k1 x1 n1 ff1 ⊢;refine sW (s:={ s with heap:=h1 }) (tb:= .ref T) hA ff1 hf ⟨o,vs,x1,e2,e3,e4,e5⟩ fun h' T' k2 t1 t2 F2=>q h' T' ((k1.mono (by simp)).trans (k2.mono (by simp))) ?_ t2 F2
 cases z:s.heap.get? T' with
 |none=>rfl
 |some u=>exact absurd t1 (n1 T' (by rw [z];simp))
end
def jM (P:Program) (w:World):CXT:=fun outer H s E e s'=>∃ (x T C dx:Addr) (H':Hp),e= .ref x/\s'.os=s.os/\AllBare s'.gens/\Un (fE outer) [] H H' s.heap s'.heap/\fF P w H' s'.heap /\
 s.heap.get? x= .none/\s.heap.get? T= .none/\H' x= .none/\H' T= .none/\iK s'.heap x T C dx .none/\E (.ref C) (some dx) H'
def zZ (H:Hp) (x:Addr):Hp:=fun b=>if b=x then .none else H b
theorem jD {H:Hp}{x:Addr}:zZ H x x= .none:=bj rfl
theorem jT {H:Hp}{x b:Addr}(h:b≠x):zZ H x b=H b:=ar h
section
variable {X:Cx}{pins:List (Addr×Obj)}{σ: St}{H:Hp}{s:Shared}
theorem aL.hokR (I:aL X pins σ H s) {h':Heap}{ch:List Addr}{x C dx:Addr}(hx:H x=some (tJ x C dx)) (k:Kp (fE X.stack) ch s.heap h') (n:∀ b∈ch,b=x\/H b= .none):fF X.prog X.w (zZ H x) h':=fun b u e=>by
 have bx:b≠x:=fun z=>by rw [z,jD] at e;cases e
 rw [jT bx] at e;have nf:∀ c v,H c=some v->c≠x->c∉fE X.stack/\c∉ch:=fun c v e cx=>⟨fun z=>(by rw [I.stkFree c z] at e;cases e),fun z=>(by
  rcases n c z with q | q
  ·exact cx q
  ·rw [q] at e;cases e)⟩
 refine (I.hok b u e).stay (fun c v hc q=>?_) (fun c q=>?_) fun c xs q=>?_
 ·rcases hc with z | z
  ·rw [z] at q ⊢;exact k.k _ _ q (nf b u e bx).1 (nf b u e bx).2
  ·have cx:c≠x:=fun zz=>by rw [zz,hx] at z;cases z
   exact k.k _ _ q (nf c _ z cx).1 (nf c _ z cx).2
 ·rw [jT (fun zz=>by rw [zz,hx] at q;cases q)];exact q
 ·rw [jT (fun zz=>by rw [zz,hx] at q;cases q)];exact q
theorem pS {E:XK}{x C dx:Addr}{E':Value->Shared->Prop}(I:aL X pins σ H s) (hs:X.stack=X.env :: X.outer) (hf:X.env.frame=some X.env.locals) (hex:X.ex=[]) (hx:H x=some (tJ x C dx)) (h0:X.H₀ x= .none) (hE:E (.ref C) (some dx) (zZ H x)) :
  wpAny (model X.prog X.w) X.A (leaving X.env (.ref x)) (fun _ s''=>jM X.prog X.w X.outer X.H₀ X.s₀ E (.ref x) s'') E' s:=by
 have ff:=I.stack;rw [hs] at ff;obtain ⟨o,e1,e2,e3,t,e4⟩:=sB I hx;unfold leaving;refine aa (uM (by rw [I.ok.frames,hs]) ff hf ⟨o,_,e1,e2,e3,e4,rfl⟩ fun h2 T k1 t1 t2 F=>?_);refine eA (s:={ s with heap:=h2 }) t2 F fun h3 k2 F3=>?_
 rw [<- hs] at k1 k2 t2;have hT:H T= .none:=fF.none I.hok t1;have kk:Kp (fE X.stack) [x,T] s.heap h3:=(k1.mono (by simp)).trans (k2.mono (by simp));have sx:X.s₀.heap.get? x= .none:=by
  cases q:X.s₀.heap.get? x with
  |none=>rfl
  |some o'=>have:=I.base.free x o' q h0 (by rw [hex];simp);rw [hx] at this;cases this
 have sT:X.s₀.heap.get? T= .none:=by
  cases q:X.s₀.heap.get? T with
  |none=>rfl
  |some o' =>
   obtain ⟨o2,z⟩:=I.base.there T o' q (by rw [hex];simp);rw [t1] at z
   cases z
 have neL:∀ b o,X.s₀.heap.get? b=some o->b≠X.env.locals:=fun b o e=>av (ai (al e) I.ok.above)
 have nch:∀ b o,X.s₀.heap.get? b=some o->b∉[x,T]:=fun b o e z=>by
  simp only [List.mem_cons,List.not_mem_nil,or_false] at z;rcases z with z | z
  ·rw [z,sx] at e;cases e
  ·rw [z,sT] at e;cases e
 have hrem:∀ b,b≠x->zZ H x b=H b:=fun b n=>jT n
 refine ⟨x,T,C,dx,zZ H x,rfl,I.os,I.bare,⟨fun b o e hn nb _=>?_,fun b o e hn hb _=>?_,fun b o e hn hx'=>?_,fun b o e _=>?_,fun b xs e=>?_,fun b o u e=>?_,fun b ps e=>?_⟩,I.hokR hx kk (fun b hb=>?_),sx,sT,jD,?_,F3,hE⟩
 ·have e1:=I.base.keep b o e hn nb (by rw [hex];simp);exact kk.k b o e1 (fun z=>by
   rcases (dJ hs hf).mp z with z | z
   ·exact neL b o e z
   ·exact nb z) (nch b o e)
 ·obtain ⟨sl,e1⟩:=I.base.slot b o e hn hb (by rw [hex];simp);obtain ⟨sl',e2⟩:=kk.f b _ e1 ((dJ hs hf).mpr (.inr hb)) (nch b o e);exact ⟨sl',e2⟩
 ·by_cases c:b=x
  ·rw [c];exact jD
  ·rw [hrem b c];exact I.base.free b o e hn (by rw [hex];simp)
 ·obtain ⟨o',e1⟩:=I.base.there b o e (by rw [hex];simp);obtain ⟨sl,e2⟩:=kk.any e1 (nch b o e);exact ⟨_,e2⟩
 ·have z:=I.base.tups b xs e;rw [hrem b (fun c=>by rw [c,hx] at z;cases z)];exact z
 ·have z:=I.base.frzs b o u e;rw [hrem b (fun c=>by rw [c,hx] at z;cases z)];exact z
 ·obtain ⟨more,z⟩:=I.base.tbls b ps e;exact ⟨more,by rw [hrem b (fun c=>by rw [c,hx] at z;cases z)];exact z⟩
 ·simp only [List.mem_cons,List.not_mem_nil,or_false] at hb;rcases hb with rfl | rfl
  ·exact .inl rfl
  ·exact .inr hT
 ·by_cases c:T=x
  ·rw [c];exact jD
  ·rw [hrem T c];exact hT
end
section
variable {M:Model}{A:Around}{E:Value->Shared->Prop}{env:Env}
variable {nm q:Str}{C N:Addr}{bs bm:List Value}{hdct:Bool}{sn:List Str}{sub:List Value}{ab:Bool}{col:Option Bool}{dd:Option Addr}{k0 k1 k2 k3 k5:Option Value}{newId:String}
theorem zR {s:Shared}{x:Sem Value}{Q:Flow->Shared->Prop}(hbase:bm.contains (.type "BaseException")=true) (hh:A.handled=none)
  (h:wpAny M A x (fun v s₁=>∃ e o t,v= .ref e/\s₁.heap.get? C=some (excClassObj nm q C N bs bm hdct sn sub ab col dd k0 k1 k2 k3 k5 newId) /\
   s₁.heap.get? e=some o/\o.cls= .ref C/\o.data= .fields #[.ref t,.none,.none,.none,.bool false,.none]/\E (.ref e) s₁) E s) :
  wpAny M A (raiseStmt env (some x) none) Q E s:=by
 have hcB:(Value.ref C :: bm).contains (.type "BaseException")=true:=by rw [qg,hbase,Bool.or_true]
 unfold raiseStmt;refine aa (bi h (fun v s₁ h₁=>?_) fun _ _ x=>x);obtain ⟨e,o,t,rfl,hC,he,hc,hd,hE⟩:=h₁;obtain ⟨oc,od,odt,osl⟩:=o
 dsimp only at hc hd
 subst hc hd;obtain ⟨hp,g,d,tk,os⟩:=s₁
 repeat (first | with_reducible refine gu he ?_ | with_reducible refine gu hC ?_ | (with_reducible refine pd hC ?_;rw [hcB]) | wp_step)
 exact wpAny_raiseNew_none hh hE
end
theorem tQ {P:Program}{w:World}{K:W.Frag}{mg:Str->Option Value}{base:Heap}{N:List Str}{qual:Str}{scope:Scope}{f:Addr}{cd:Value}{A:Around}{outer:List Env}{s:Shared}{H:Hp}{E:XK}
  {C D:Addr}{i:Option Value}{e:Expr}{te:TE}{pos:Pos}(M:XMk K C D i) (he:PE (dP (jM P w) P w K mg base N qual scope f cd A outer s H E) e te) :
  PS (dP (jM P w) P w K mg base N qual scope f cd A outer s H E) (.Raise (some e) .none pos) (fun _ σ H1=>te σ H1 fun v H2=>∃ x dx,v= .ref x/\H2 x=some (tJ x C dx)/\H x= .none/\E (.ref C) (some dx) (zZ H2 x)):=by
 intro pins s1 σ H1 D' I h;obtain ⟨nm',q,Nn,bs,hdct,sn,sub,ab,col,dd,k0,k1,k2,k3,k5,Bn,newId,inN,bmN,eb,hc,hl,tx,ni⟩:=M.cls;have hh:(A.deeper (envOfC qual scope s.heap.objs.size f cd)).handled= .none:=I.ok.hd rfl;rw [arm_exec_Raise];refine aa (ic (zR (C:=C) (nm:=nm') (q:=q) (N:=Nn) (bs:=bs) (bm:= .ref D :: yD) (hdct:=hdct) (sn:=sn) (sub:=sub) (ab:=ab) (col:=col) (dd:=dd) (k0:=k0) (k1:=k1) (k2:=k2) (k3:=k3) (k5:=k5) (newId:=newId) (by rw [qg,show yD.contains (Value.type "BaseException")=true by decide,Bool.or_true]) hh ?_));refine aa (bi (he pins s1 σ H1 _ I h) (fun v s2 z=>aa (ic (am ?_))) fun _ _ z=>z);obtain ⟨y,H2,I2,r,x,dx,rfl,hx,h0,hE⟩:=z;obtain rfl:v= .ref x:=r;obtain ⟨o,e1,e2,e3,t,e4⟩:=sB I2 hx;exact ⟨x,o,t,rfl,I2.kIn _ _ hl,e1,e2,e4,pS I2 rfl rfl rfl hx h0 hE⟩
theorem zX {M:Model}{A:Around}{E:Value->Shared->Prop}{s:Shared}{K:PySem.W.Frag}{x C D T:Addr}{o:Obj}{Q:Bool->Shared->Prop}(kin:K.In s.heap) (U:XUp K T) (W:dR K C D) (hT:T=C\/T=D) (e1:s.heap.get? x=some o) (e2:o.cls= .ref C) (q:Q true s):wpAny M A (excMatches (.ref x) (.ref T)) Q E s:=by
 unfold excMatches;refine aa ?_;unfold isInstance;refine aa ((looks_typeIn kin U.ty).here ((looks_subIn kin lG).here ?_));rw [ar (by simp)];refine aa (am ?_);refine aa ?_;rw [io];refine aa ?_;unfold isExcClass;refine aa (aa ((rZ U.cl kin).here ?_));rw [bj rfl];refine (looks_subIn kin U.be).here ?_;rw [ar (by simp)];refine am ?_
 dsimp only
 rw [ny];refine am (aa (wpAny_typeOf_ref e1 ?_));rw [e2];refine aa ?_;rw [io];refine aa (aa ((looks_subIn kin (W.subIn (.ref T))).here ?_));rw [bj (by rcases hT with h | h <;> simp [mV,h])];exact am (am (am q))
section
variable {X:Cx}
def aQ7 (K:W.Frag) (T:Addr) (i l:Nat) (tb:XK->TS) (th:TS):TS:=fun Dn σ H =>
 tb (fun cls od H'=>∃ C D dx,cls= .ref C/\od=some dx/\dR K C D/\(T=C\/T=D)/\∀ (σ':St) (x:Addr),σ'.length=l->H' x= .none ->
  th { nx:=fun σ2 H2=>Dn.nx (σ2.set i .none) H2,rt:=Dn.rt } (σ'.set i (some (.ref x))) (aN H' x (XD x C dx))) Dn σ H
theorem xI {i:Nat}{n nmT:Str}{Tc:Addr}{body suite:List Stmt}{b0:Stmt}{np hpos pos:Pos}{tb:XK->TS}{th:TS}(hs:X.stack=X.env :: X.outer) (hf:X.env.frame=some X.env.locals) (hex:X.ex=[]) (hN:X.N.Nodup) (hi:X.N[i]?=some n)
  (hl:X.env.scope.names.lookup n=some .local) (hk:X.env.kindOf n=some .local) (hg:Gl X nmT) (hm:X.mg nmT=some (.ref Tc)) (U:XUp X.K Tc)
  (hb:∀ (Ex:Value->Shared->Prop) (E1:XK),fD (jM X.prog X.w) (X.wish Ex) E1->kE (X.wish Ex) body (tb E1)) (hh:∀ x,kE (X.hand x) (b0 :: suite) th) (hdb:autoParam ((nmT == ("__debug__": Str))=false) Rq1._auto_1) :
  PS0 X (.Try body [.ExceptHandler (some (.Name nmT np)) (some n) (b0 :: suite) hpos] [] [] pos) (aQ7 X.K Tc i X.N.length tb th):=by
 intro s σ H Dn I h;have kf:=I.ok.kind;refine wpAny_Try_except ?_;refine bi (hb (fun e s₁=>wpAny (model X.prog X.w) X.A (noteFrame e X.env) (fun _ s₂=>wpAny (model X.prog X.w) X.A (setFlight e .none) (fun _ s₃=>wpAny (model X.prog X.w) X.A (handleBy e X.env [.ExceptHandler (some (.Name nmT np)) (some n) (b0 :: suite) hpos]) (SP X [] Dn) X.xe s₃) X.xe s₂) X.xe s₁) _ ?_ [] s σ H Dn (I.wish _) h) (fun f s1 q=>?_) fun _ _ z=>z
 ·intro pins' σ' H1 s1 e s2 I1 cx;obtain ⟨x,T,C,dx,H2,rfl,os,bare,un,hok,nx,nT,hx,hT,F,C',D',dx',eC,eD,W,hcd,q⟩:=cx
  cases eC
  cases eD
  have J1:aL X [] σ' H1 s1:=I1.unwish.nopins;have ax:=J1.away hex nx;have aT:=J1.away hex nT;have J2:aL X [] σ' H2 s2:=J1.call' os un hok bare fun b z=>absurd z (by simp)
  have fr2:=J2.stack;rw [hs] at fr2;have tf:=aT.fr;rw [hs] at tf;show wpAny _ _ (noteFrame (.ref x) X.env) _ _ s2;refine pR (s:=s2) (outer:=X.outer) (by rw [J2.ok.frames,hs]) fr2 hf tf F fun h3 T3 k3 t3 t3' F3=>?_
  refine eA (s:={ s2 with heap:=h3 }) t3' F3 fun h4 k4 F4=>?_
  have a3:=J2.away hex t3;rw [<- hs] at k3 k4;have k34:Kp (fE X.stack) [x,T,T3] s2.heap h4:=(k3.mono (by simp)).trans (k4.mono (by simp));have hT3:H2 T3= .none:=fF.none J2.hok t3;have cl:∀ b∈[x,T,T3],H2 b= .none:=fun b hb=>by
   simp only [List.mem_cons,List.not_mem_nil,or_false] at hb;rcases hb with rfl | rfl | rfl
   ·exact hx
   ·exact hT
   ·exact hT3
  have aw:∀ b∈[x,T,T3],aG8 X [] b:=fun b hb=>by
   simp only [List.mem_cons,List.not_mem_nil,or_false] at hb;rcases hb with rfl | rfl | rfl
   ·exact ax
   ·exact aT
   ·exact a3
  have J4:aL X [] σ' H2 { s2 with heap:=h4 }:=J2.move hs hf hex aw k34 (fun b _=>rfl) cl (J2.hokK k34 cl);refine wpAny_handleBy_cons ?_ (fun z=>nomatch z);refine codeAny_handlers_test (kL (X:=X.hand x) (J4.hand x) hg hm ?_ hdb);obtain ⟨⟨oF,vF,f1,f2,f3,f4,f5⟩,f6⟩:=id F4;refine zX (s:={ s2 with heap:=h4 }) J4.kIn U W hcd f1 f2 ?_;refine codeAny_handlers_suite_as ?_;refine eA (s:={ s2 with heap:=h4 }) (fs:=fE X.stack) a3.fr F4 fun h5 k5 F5=>?_
  have J5:aL X [] σ' H2 { s2 with heap:=h5 }:=J4.move hs hf hex (ch:=[T3]) (fun b hb=>aw b (by simp at hb ⊢;exact .inr (.inr hb))) k5 (fun b _=>rfl) (fun b hb=>cl b (by simp at hb ⊢;exact .inr (.inr hb))) (J4.hokK k5 fun b hb=>cl b (by simp at hb ⊢;exact .inr (.inr hb)));obtain ⟨⟨o,vs,e1,e2,e3,e4,e5⟩,_⟩:=F5;have xn:∃ o,h5.get? x=some o/\o.cls= .ref C/\notCls o=true/\o.dict=some dx:=⟨o,e1,e2,by unfold notCls;rw [e4],e3⟩
  have hok6:fF X.prog X.w (aN H2 x (XD x C dx)) h5:=fun b u eb=>by
   by_cases c:b=x
   ·subst c;rw [aD] at eb
    cases eb
    exact aS9 xn
   ·rw [aH c] at eb;refine (J5.hok b u eb).stay (fun _ _ _ q=>q) (fun cc q=>?_) fun cc xs q=>?_
    ·rw [aH (fun z=>by rw [z,hx] at q;cases q)];exact q
    ·rw [aH (fun z=>by rw [z,hx] at q;cases q)];exact q
  have J6:aL X [] σ' (aN H2 x (XD x C dx)) { s2 with heap:=h5 }:=J5.move hs hf hex (ch:=[x]) (fun b hb=>aw b (by simp at hb ⊢;exact .inl hb)) (Kp.mono (Kp.kept fun _ _ e=>e) (by simp)) (fun b hb=>aH (by simpa using hb)) (fun b hb=>cl b (by simp at hb ⊢;exact .inl hb)) hok6;refine eL (v:= .ref x) J6 hN hi (.inl hl) rfl (fun s7 J7=>?_) (.inr hl);refine bi (hh x [] s7 _ _ _ (J7.hand x) (q σ' x J6.len hx)) (fun f s8 q8=>?_) fun _ _ z=>z.elim
  have done:∀ (σ2:St) (H8:Hp),aL X [] σ2 H8 s8->∀ {Q:Unit->Shared->Prop}{E:Value->Shared->Prop},(∀ s9,aL X [] (σ2.set i .none) H8 s9->Q () s9)->wpAny (model X.prog X.w) X.A (do bindName X.env n Value.none;unbindBehindTheSuite X.env n hpos) Q E s8:=fun σ2 H8 J8 Q E q9=>by
   refine aa (nq (eL (v:= .non) J8 hN hi (.inl hl) rfl (fun s9 J9=>?_) (.inr hl)));unfold unbindBehindTheSuite;obtain ⟨m,hm9,lk⟩:=J9.loc;have il:i < σ2.length:=by rw [J8.len];exact (bu.mp hi).1
   obtain ⟨u,ru,lk1⟩:=lk i n .non hi (by rw [jd il]) (.inl hl);have mn:m n=some u:=by
    rcases lk1 with ⟨_,z⟩ | ⟨z,_⟩
    ·exact z
    ·rw [hk] at z;rcases z with z | z <;> cases z
   refine wpAny_onRaise (wpAny_unbindName_local hk hm9 mn (by rw [kf];rfl) fun h9 u9 ns9 sb9=>?_);have:=J9.unset hN hi hk lk ns9 sb9;rw [List.set_set] at this;exact q9 _ this
  cases f with
  |next =>
   obtain ⟨σ2,H8,J8,z⟩:=q8;exact done σ2 H8 (J8.unhand J6.ok) fun s9 J9=>⟨_,H8,J9,z⟩
  |ret v =>
   obtain ⟨w',σ2,H8,J8,r,z⟩:=q8;exact done σ2 H8 (J8.unhand J6.ok) fun s9 J9=>⟨w',_,H8,J9,r,z⟩
  |brk =>
   obtain ⟨_,_,_,z⟩:=q8;exact z.elim
  |cont =>
   obtain ⟨_,_,_,z⟩:=q8;exact z.elim
 ·have q:=SP.unwish q
  cases f with
  |next=>exact ik q
  |ret v=>exact q
  |brk=>exact q
  |cont=>exact q
end
section
variable {X:Cx}{f:Str}
end
section
variable {P:Program}{w:World}{K:W.Frag}{mg:Str->Option Value}{base:Heap}{N:List Str}{qual:Str}{scope:Scope}{f:Addr}{cd:Value}{A:Around}{outer:List Env}{s0:Shared}{H0:Hp}{E:XK}
theorem lR:fD (jM P w) (dP (jM P w) P w K mg base N qual scope f cd A outer s0 H0 E) E:=by
 intro pins σ H1 s1 e s2 I1 cx;obtain ⟨x,T,C,dx,H2,rfl,os,bare,un,hok,nx,nT,hx,hT,F,hE⟩:=cx;generalize hX:dP (jM P w) P w K mg base N qual scope f cd A outer s0 H0 E=X at I1 un;have hs:X.stack=X.env :: X.outer:=by rw [<- hX];rfl
 have hf:X.env.frame=some X.env.locals:=by rw [<- hX];rfl
 have hex:X.ex=[]:=by rw [<- hX];rfl
 have J1:aL X [] σ H1 s1:=I1.nopins;have ax:=J1.away hex nx;have aT:=J1.away hex nT;have hok':fF X.prog X.w H2 s2.heap:=by rw [<- hX];exact hok
 have J2:aL X [] σ H2 s2:=J1.call' os un hok' bare fun b z=>absurd z (by simp)
 have fr2:=J2.stack;rw [hs] at fr2;have tf:=aT.fr;rw [hs] at tf;have goal:wpAny (model X.prog X.w) X.A (leaving X.env (.ref x)) (fun _ s''=>jM X.prog X.w X.outer X.H₀ X.s₀ E (.ref x) s'') (fun e' s''=>jM X.prog X.w X.outer X.H₀ X.s₀ E e' s'') s2:=by
  unfold leaving;refine aa (pR (s:=s2) (outer:=X.outer) (by rw [J2.ok.frames,hs]) fr2 hf tf F fun h3 T3 k3 t3 t3' F3=>?_);refine eA (s:={ s2 with heap:=h3 }) t3' F3 fun h4 k4 F4=>?_
  rw [<- hs] at k3 k4;have kk:Kp (fE X.stack) [x,T,T3] s2.heap h4:=(k3.mono (by simp)).trans (k4.mono (by simp));have hT3:H2 T3= .none:=fF.none J2.hok t3;have a3:=J2.away hex t3;have cl:∀ b∈[x,T,T3],H2 b= .none:=fun b hb=>by
   simp only [List.mem_cons,List.not_mem_nil,or_false] at hb;rcases hb with rfl | rfl | rfl
   ·exact hx
   ·exact hT
   ·exact hT3
  have sx:X.s₀.heap.get? x= .none:=ax.s0;have sT:X.s₀.heap.get? T= .none:=aT.s0;have s3:X.s₀.heap.get? T3= .none:=a3.s0;have neL:∀ b o,X.s₀.heap.get? b=some o->b≠X.env.locals:=fun b o e=>av (ai (al e) J2.ok.above)
  have nch:∀ b o,X.s₀.heap.get? b=some o->b∉[x,T,T3]:=fun b o e z=>by
   simp only [List.mem_cons,List.not_mem_nil,or_false] at z;rcases z with z | z | z
   ·rw [z,sx] at e;cases e
   ·rw [z,sT] at e;cases e
   ·rw [z,s3] at e;cases e
  refine ⟨x,T3,C,dx,H2,rfl,J2.os,J2.bare,⟨fun b o e hn nb _=>?_,fun b o e hn hb _=>?_,fun b o e hn hx'=>?_,fun b o e _=>?_,J2.base.tups,J2.base.frzs,J2.base.tbls⟩,J2.hokK kk cl,sx,s3,hx,hT3,F4,hE⟩
  ·have e1:=J2.base.keep b o e hn nb (by rw [hex];simp);exact kk.k b o e1 (fun z=>by
    rcases (dJ hs hf).mp z with z | z
    ·exact neL b o e z
    ·exact nb z) (nch b o e)
  ·obtain ⟨sl,e1⟩:=J2.base.slot b o e hn hb (by rw [hex];simp);obtain ⟨sl',e2⟩:=kk.f b _ e1 ((dJ hs hf).mpr (.inr hb)) (nch b o e);exact ⟨sl',e2⟩
  ·exact J2.base.free b o e hn (by rw [hex];simp)
  ·obtain ⟨o',e1⟩:=J2.base.there b o e (by rw [hex];simp);obtain ⟨sl,e2⟩:=kk.any e1 (nch b o e);exact ⟨_,e2⟩
 rw [<- hX] at goal ⊢;exact goal
theorem gY {X:Cx}:fD (jM P w) X E0:=fun _ _ _ _ _ _ _ h=>by
 obtain ⟨_,_,_,_,_,_,_,_,_,_,_,_,_,_,_,z⟩:=h;exact z.elim
end
section
variable {P:Program}{w:World}{K:W.Frag}{mg:Str->Option Value}{base:Heap}
theorem lO.okY {x qual:Str}{st:Stmt}{f:Addr}{fd:FuncData}{N ps:List Str}{k:Nat}{sp:Sp}(F:lO K x qual st f fd) (S:eB N ps (aI st)) (len:∀ vs H Q E,sp vs H Q E->vs.length=ps.length)
  (hbody:∀ (cdv:Value) (A:Around) (outer:List Env) (s:Shared) (H:Hp) (vs:List V) (Q:VK) (E:XK),cF k (A.deeper (envOfC qual (aI st) s.heap.objs.size f cdv))->sp vs H Q E ->
   ∃ t,kE (dP (jM P w) P w K mg base N qual (aI st) f cdv A outer s H E) (aS st) t/\t { nx:=fun _ H'=>Q .non H',rt:=Q } (dX N vs) H):fU P w K mg base (jM P w) (k+1) f fd ps sp:=by
 obtain ⟨oc,od,kV,doc,pm,an,cdv,ct,osl,rfl,lk,hcd⟩:=F.ex;exact wX lk hcd S len fun A outer s H vs Q E hr hsp=>hbody cdv A outer s H vs Q E hr hsp
end
end L2
namespace Mine
open PySem L2
structure sY (H:Hp) (p:Addr) (ks:List Str) (rs:List Rw):Prop where
 ex:∃ pk pr,H p=some (.tup [.ref pk,.ref pr])/\H pk=some (.tup (ks.map V.str))/\H pr=some (.tup (aQ rs))
 rows:bI H rs
 cnt:cS rs<=300
 dep:eM rs<=3
 k1:1<=ks.length
 k3:ks.length<=3
 th:∀ r∈bF rs,tW ks.length r
theorem sY.ts {H H':Hp}{p:Addr}{ks:List Str}{rs:List Rw}(t:TS H H') (P:sY H p ks rs):sY H' p ks rs :=
 ⟨let ⟨pk,pr,a,b,c⟩:=P.ex;⟨pk,pr,t _ _ a,t _ _ b,t _ _ c⟩,bI.ts t rs P.rows,P.cnt,P.dep,P.k1,P.k3,P.th⟩
theorem aO5 {xs:List Str}{n:Nat}{rs:List Rw}(h:∀ cs:List Int,(cs.length:Int)=n->tL xs cs rs):∀ r∈bF rs,tW n r:=fun r hr=>by
 obtain ⟨m,e⟩:=de.mp hr;have q:=gM (h (List.replicate n 0) (by simp)) r m
 cases r with
 |thr p x T a3 wss =>
  obtain ⟨⟨ok,ak⟩,_⟩:=q;refine ⟨p,x,T,a3,wss,rfl,ok,ak.few.a,ak.few.b,fun ws hw=>?_⟩;have w:=ak.few.w ws hw;have e1:=w.len;rw [gw] at e1;exact ⟨e1,w.wt⟩
 |lt p x t=>cases e
 |tell p t=>cases e
 |when p pa pb t a b=>cases e
 |times p pb n b=>cases e
theorem aA2.pgh {xs ks:List Str}{rs:List Rw}{H:Hp}{pg kt pr:Addr}(P:aA2 xs ks.length rs) (h1:H pg=some (.tup [.ref kt,.ref pr])) (h2:H kt=some (.tup (ks.map V.str))) (h3:H pr=some (.tup (aQ rs))) (h4:bI H rs) (k1:1<=ks.length) (k3:ks.length<=3):sY H pg ks rs :=
 ⟨⟨kt,pr,h1,h2,h3⟩,h4,aj (fP P.kn) (aj P.cost (by decide)),P.dep,k1,k3,aO5 P.ok⟩
theorem aB8 {n:Nat}{r:Rw}(h:tW n r) {kd:Nat}(hk:kd < n):0<=tR kd r/\tR kd r<=9:=by
 obtain ⟨p,x,T,a3,wss,rfl,ok,_,_,hw⟩:=h;obtain ⟨l0,lh,h9⟩:=ok.lo0;refine ⟨nK _,xC fun m hm=>?_⟩;obtain ⟨ws,h1,rfl⟩:=fk.mp hm;obtain ⟨e,b⟩:=hw ws h1;have hk':kd < ws.length:=by omega
 have:ws.getD kd 0∈ws:=by rw [fm,bp hk'];exact ia hk'
 exact (xM l0 lh h9 (b _ this).1 (b _ this).2).2.1
theorem aC9 {n:Nat}{rs:List Rw}(h:∀ r∈bF rs,tW n r) {kd:Nat}(hk:kd < n):0<=wA rs kd/\wA rs kd<=9:=by
 refine ⟨nK _,xC fun m hm=>?_⟩;obtain ⟨r,h1,rfl⟩:=fk.mp hm;exact (aB8 (h r h1) hk).2
theorem wG {n:Nat}{rs:List Rw}(h:∀ r∈bF rs,tW n r):∀ t∈cX rs n,0<=t/\t<=9:=fun t ht=>by
 obtain ⟨kd,h1,rfl⟩:=fk.mp ht;exact aC9 h (jw.mp h1)
def tX (acc:List (List Int)) (t:Int):List (List Int):=acc.flatMap fun c=>(List.range (t+1).toNat).map fun k:Nat=>c++[(k:Int)]
def iS (ts:List Int):List (List Int):=ts.foldl tX [[]]
def mD (ts:List Int):Int:=ts.foldl (fun m t=>m * (t+1)) 1
theorem iT (ts:List Int) (t:Int):iS (ts++[t])=tX (iS ts) t:=by unfold iS;rw [jb];rfl
theorem iX (ts:List Int) (t:Int):mD (ts++[t])=mD ts * (t+1):=by unfold mD;rw [jb];rfl
theorem nH (acc:List (List Int)) (t:Int):(tX acc t).length=acc.length * (t+1).toNat:=by
 unfold tX
 induction acc with
 |nil=>simp
 |cons a r ih=>rw [dt,ap,ih,ac,fg,ef,Nat.succ_mul];omega
theorem aG4 {acc:List (List Int)}{t:Int}{c:List Int}{n:Nat}(h:∀ c∈acc,c.length=n) (m:c∈tX acc t):c.length=n+1:=by
 obtain ⟨d,hd,m⟩:=List.mem_flatMap.mp m;obtain ⟨k,_,rfl⟩:=fk.mp m;rw [ap,h d hd];rfl
structure aT8 (ts:List Int):Prop where
 l:(iS ts).length<=10 ^ ts.length
 c:∀ c∈iS ts,c.length=ts.length
 m0:1<=mD ts
 m1:mD ts<=10 ^ ts.length
theorem sE (ts:List Int) (h:∀ t∈ts,0<=t/\t<=9):aT8 ts:=by
 have key:∀ n,n<=ts.length->aT8 (ts.take n):=fun n=>by
  induction n with
  |zero=>intro _;exact ⟨by simp [iS],by simp [iS],by simp [mD],by simp [mD]⟩
  |succ n ih =>
   intro hn;have q:=ih (by omega);have hi:n < ts.length:=by omega
   have e:ts[n]?=some ts[n]:=bp hi;obtain ⟨t0,t9⟩:=h ts[n] (ia hi);have ln:(ts.take n).length=n:=by rw [bq];omega
   rw [bE e];have la:(ts.take n++[ts[n]]).length=n+1:=by rw [ap,ln];rfl
   obtain ⟨ql,qc,q0,q1⟩:=q;rw [ln] at ql qc q1;refine ⟨?_,?_,?_,?_⟩
   ·rw [iT,nH,la,qh];exact cv ql (by omega)
   ·rw [iT,la];exact fun c m=>aG4 qc m
   ·rw [iX];have:=Int.mul_le_mul q0 (show 1<=ts[n]+1 by omega) (by decide) (by omega);omega
   ·rw [iX,la,Int.pow_succ];exact Int.mul_le_mul q1 (by omega) (by omega) (Int.le_of_lt (Int.pow_pos (by decide)))
 have:=key ts.length (ae _)
 rwa [br] at this
def yK (css:List (List Int)):PyData:= .list (css.map fun c=> .tuple (c.map PyData.int))
theorem oN {K:W.Frag}{H:Hp}:∀ {vs:List V}{css:List (List Int)},dA (dH H) vs css->lW K H (css.map fun c=> .tuple (c.map PyData.int)) vs
 |[],[],_=>rfl
 |v :: vs,c :: css,⟨⟨a,e,h⟩,r⟩=>⟨v,vs,rfl,⟨a,_,e,bA.of h,eE c⟩,oN r⟩
 |[],_ :: _,z=>z.elim
 |_ :: _,[],z=>z.elim
theorem xN:∀ css:List (List Int),PyData.canLayAll0 (css.map fun c=> .tuple (c.map PyData.int))=true
 |[]=>rfl
 |c :: r=>by simp only [List.map_cons,PyData.canLayAll0,PyData.canLay0,lJ,xN r,Bool.and_self]
theorem pB:∀ css:List (List Int),PyData.depthAll (css.map fun c=> .tuple (c.map PyData.int))<=1
 |[]=>by simp [PyData.depthAll]
 |c :: r=>by have:=pB r;simp only [List.map_cons,PyData.depthAll,PyData.depth,iR];omega
theorem hI (css:List (List Int)):SeqAt.shaped (yK css)=true:=by
 have:=pB css;unfold SeqAt.shaped yK;rw [gz];refine ⟨?_,ah ?_⟩
 ·simp only [PyData.canLay0,xN]
 ·simp only [PyData.depth];omega
theorem lA:∀ css:List (List Int),SeqAt.noMixAll (css.map fun c=> .tuple (c.map PyData.int)) (css.map fun c=> .tuple (c.map PyData.int))=true
 |[]=>rfl
 |c :: r=>by simp only [List.map_cons,SeqAt.noMixAll,SeqAt.noMix,fR,lA r,Bool.and_self]
theorem aT9 (T:eO):T.wd∈iB:=by cases T <;> simp [eO.wd,iB]
theorem xU {ns:List Int}{k:Nat}(h:k < ns.length):jH (ns.map V.int) (k:Int)=some (.int (ns.getD k 0)):=oO (by rw [fe,bp h,fm,bp h];rfl)
theorem eV {ns:List Int}{i:Nat}{v:V}(h:(ns.map V.int)[i]?=some v):∃ n,v= .int n/\ns[i]?=some n:=by
 rw [fe] at h
 cases e:ns[i]? with
 |none=>rw [e] at h;cases h
 |some r=>rw [e] at h;exact ⟨r,(ci h).symm,rfl⟩
theorem uI {T:eO}{wss:List (List Int)}{kd:Nat}(h:T.lo=T.hb):uL T wss kd=0:=by
 unfold uL;rcases nW (wss.map fun ws=>iD T.lo T.hb (ws.getD kd 0)) with q | q
 ·exact q
 ·obtain ⟨ws,_,e⟩:=fk.mp q;rw [<- e];exact bj h
theorem yB {T:eO}{wss:List (List Int)}{kd:Nat}(h:¬ T.lo=T.hb) (h0:0<=T.hb):iA ((((wss.map fun ws=>ws.getD kd 0)).filter fun w=>decide (0 < w)).map fun w=>(T.hb+w - 1) / w)=uL T wss kd:=by
 rw [sH]
 ·unfold uL;rw [List.map_map]
  congr 1
  refine List.map_congr_left fun ws _=>?_
  exact (ar h).symm
 ·exact fun w _ hw=>mh (by omega) (by omega)
def spAsS:Sp:=fun vs H Q _=>∃ (p:Addr) (rs:List Rw),vs=[.ref p]/\H p=some (.tup (aQ rs))/\rs.length<=4000 /\
 ∀ (r:Addr) (zs:List V) (H':Hp),aY H H'->H' r=some (.lst zs)->dA (gF H') zs (rs.map fun r=>(("row": Str),r))->Q (.ref r) H'
def spInner:Sp:=fun vs H Q _=>∃ (r:Rw),vs=[.ref r.p]/\iC H r/\r.cnt<=4000 /\
 ∀ (q:Addr) (zs:List V) (H':Hp),aY H H'->H' q=some (.lst zs)->dA (gF H') zs (dZ r)->Q (.ref q) H'
def spSteps:Sp:=fun vs H Q _=>∃ (p:Addr) (rs:List Rw),vs=[.ref p]/\H p=some (.tup (aQ rs))/\bI H rs/\cS rs<=4000 /\
 ∀ (r:Addr) (zs:List V) (H':Hp),aY H H'->H r=none->H' r=some (.lst zs)->dA (dI H') zs (eZ rs)->Q (.ref r) H'
def spRowsIn:Sp:=fun vs H Q _=>∃ (p:Addr) (ks:List Str) (rs:List Rw),vs=[.ref p]/\sY H p ks rs /\
 ∀ (r:Addr) (H':Hp),aY H H'->H r=none->H' r=some (.lst (aQ (cE rs)))->Q (.ref r) H'
def spThrsIn:Sp:=fun vs H Q _=>∃ (p:Addr) (ks:List Str) (rs:List Rw),vs=[.ref p]/\sY H p ks rs /\
 ∀ (r:Addr) (H':Hp),aY H H'->H r=none->H' r=some (.lst (aQ (bF rs)))->Q (.ref r) H'
def spTopR:Sp:=fun vs H Q _=>∃ (r:Rw) (kd n:Nat),vs=[.ref r.p,.int kd]/\iC H r/\tW n r/\kd < n/\∀ H',aY H H'->Q (.int (tR kd r)) H'
def spTops:Sp:=fun vs H Q _=>∃ (p:Addr) (ks:List Str) (rs:List Rw),vs=[.ref p]/\sY H p ks rs/\∀ (t:Addr) (H':Hp),aY H H'->lF H' t (cX rs ks.length)->Q (.ref t) H'
def nM (C:Addr):Sp:=fun vs H Q _=>∃ (a:Addr) (n:Int),vs=[.ref a,.int n]/\H a=some (xX a C)/\∀ dx,H dx=none->Q .non (aN (aN (aN H dx (XM dx [])) a (tJ a C dx)) dx (XM dx [("most",.int n)]))
def uC (H:Hp) (dx:Addr) (n:Int):Prop:=H dx=some (XM dx [("most",.int n)])
theorem xW {H H1:Hp}{x dx C:Addr}{n:Int}{E:XK}(s:aY H H1) (hx:H1 x=none) (hd:aN H1 x (xX x C) dx=none) (k:∀ H',aY H H'->uC H' dx n->E (.ref C) (some dx) H') :
  ∃ x' dx',V.ref x= .ref x'/\aN (aN (aN (aN H1 x (xX x C)) dx (XM dx [])) x (tJ x C dx)) dx (XM dx [("most",.int n)]) x'=some (tJ x' C dx')/\H x'=none /\
   E (.ref C) (some dx') (zZ (aN (aN (aN (aN H1 x (xX x C)) dx (XM dx [])) x (tJ x C dx)) dx (XM dx [("most",.int n)])) x'):=by
 have ne:x≠dx:=aK aD hd;have hd2:H1 dx=none:=by rw [aH ne.symm] at hd;exact hd
 refine ⟨x,dx,rfl,by rw [aH ne,aD],s.free hx,k _ (fun b u q=>?_) ?_⟩
 ·have b1:=s b u q;have nx:b≠x:=aK b1 hx;have nd:b≠dx:=aK b1 hd2;rw [jT nx,aH nd,aH nx,aH nd,aH nx];exact b1
 ·unfold uC;rw [jT ne.symm,aD]
def jZ (H:Hp) (r:Addr) (css:List (List Int)):Prop:=∃ vs,H r=some (.lst vs)/\dA (dH H) vs css
def pI (C:Addr):Sp:=fun vs H Q E=>∃ (p:Addr) (most:Int) (ks:List Str) (rs:List Rw),vs=[.ref p,.int most]/\sY H p ks rs /\
 (mD (cX rs ks.length)<=most->∀ (r:Addr) (H':Hp),aY H H'->H r=none->jZ H' r (iS (cX rs ks.length))->Q (.ref r) H') /\
 (most < mD (cX rs ks.length)->∀ (dx:Addr) (H':Hp),aY H H'->uC H' dx most->E (.ref C) (some dx) H')
def wJ (C:Addr):Sp:=fun vs H _ E=>∃ (p:Addr) (most:Int) (ks:List Str) (rs:List Rw),vs=[.ref p,.int most]/\sY H p ks rs/\most < mD (cX rs ks.length)/\∀ (dx:Addr) (H':Hp),aY H H'->uC H' dx most->E (.ref C) (some dx) H'
def aA7 (C:Addr):Sp:=fun vs H _ E=>∃ (p:Addr) (most:Int) (k f:V) (ks:List Str) (rs:List Rw),vs=[.ref p,k,f,.int most]/\sY H p ks rs/\most < mD (cX rs ks.length)/\∀ (dx:Addr) (H':Hp),aY H H'->uC H' dx most->E (.ref C) (some dx) H'
def aB3 (C:Addr):Sp:=fun vs H _ E=>∃ (p:Addr) (most:Int) (k:V) (ks:List Str) (rs:List Rw),vs=[.ref p,k,.int most]/\sY H p ks rs/\most < mD (cX rs ks.length)/\∀ (dx:Addr) (H':Hp),aY H H'->uC H' dx most->E (.ref C) (some dx) H'
theorem aH9 {σ: L2.St}(h:σ.length=4):∃ v0 v1 v2 v3,σ=[v0,v1,v2,v3]:=by
 rcases σ with _ | ⟨a,_ | ⟨b,_ | ⟨c,_ | ⟨d,_ | ⟨e,r⟩⟩⟩⟩⟩
 ·cases h
 ·cases h
 ·cases h
 ·cases h
 ·exact ⟨a,b,c,d,rfl⟩
 ·exact absurd h (by simp)
theorem xE {ts:List Int}(h:∀ t∈ts,0<=t/\t<=9) (l:ts.length<=3) (i:Nat):(iS (ts.take i)).length<=1000:=by
 have q:=(sE (ts.take i) fun t m=>h t (jr m)).l;exact aj q (aj (gi (by decide) (show (ts.take i).length<=3 by rw [bq];omega)) (by decide))
theorem sN:∀ {rs:List Rw}{r:Rw},r∈rs->kW r<=eM rs
 |r :: rs,q,m=>by
  simp only [eM];rcases bv.mp m with e | e
  ·rw [e];omega
  ·have:=sN e;omega
theorem yU:∀ T:eO,¬ (V.str T.wd=V.str "when")/\¬ (V.str T.wd=V.str "times")
 |.lad .. =>by dsimp only [eO.wd];constructor <;> decide +kernel
 |.fla .. =>by dsimp only [eO.wd];constructor <;> decide +kernel
 |.cho .. =>by dsimp only [eO.wd];constructor <;> decide +kernel
 |.fst .. =>by dsimp only [eO.wd];constructor <;> decide +kernel
theorem aO2:∀ T:eO,oU (.str T.wd) [.str "when",.str "times"]=false
 |.lad .. =>by dsimp only [eO.wd];decide +kernel
 |.fla .. =>by dsimp only [eO.wd];decide +kernel
 |.cho .. =>by dsimp only [eO.wd];decide +kernel
 |.fst .. =>by dsimp only [eO.wd];decide +kernel
theorem jG (rs:List Rw):(bF rs).length<=cS rs:=by unfold bF;exact aj (dz _ _) (by rw [dN];exact ae _)
theorem wB (rs:List Rw) (i:Nat):cS (rs.take i)<=cS rs:=by
 have:=lK (rs.take i) (rs.drop i);rw [List.take_append_drop] at this;omega
theorem qR (n:Nat):(List.replicate n (V.bl true)).all iH=true:=by
 induction n with
 |zero=>rfl
 |succ n ih=>rw [fj,ki,ih];rfl
theorem xG (n:Nat):oU (.bl false) (List.replicate n (V.bl true))=false:=by
 unfold oU
 induction n with
 |zero=>rfl
 |succ n ih=>rw [fj,gl,ih];rfl
theorem vZ {T:eO}{kd:Nat}(wss:List (List Int)) {t:Int}(h:0<=t):(wss.map fun ws=>iD T.lo T.hb (ws.getD kd 0)).foldl mx t=mx t (uL T wss kd):=hU _ _ h
theorem vM (ns:List Int) (n:Int):iA (ns++[n])=mx (iA ns) n:=by unfold iA;rw [jb];rfl
def spLSm:Sp:=fun vs H Q _=>∃ (p:Addr) (x:Str) (T:eO) (a3:V) (wss:List (List Int)),vs=[.ref p]/\iC H (.thr p x T a3 wss)/\∀ s H',aY H H'->gX H' s wss->Q (.ref s) H'
def rT:Nat->Sp
 |0=>fun _ _ _ _=>False
 |n+1=>fun vs H Q _=>∃ (pr:Addr) (rs:List Rw),vs=[.ref pr]/\H pr=some (.tup (aQ rs))/\bI H rs/\eM rs<=n/\cS rs<=300/\∀ (r:Addr) (H':Hp),aY H H'->H r=none->H' r=some (.lst (aQ (bF rs)))->Q (.ref r) H'
def spLTo:Sp:=spTops
def spLCr:Sp:=fun vs H Q _=>∃ (t:Addr) (ts:List Int),vs=[.ref t]/\lF H t ts/\ts.length<=3/\(∀ t∈ts,0<=t/\t<=9)/\∀ (r:Addr) (H':Hp),aY H H'->H r=none->jZ H' r (iS ts)->Q (.ref r) H'
def spWhL:Sp:=fun vs H Q _=>∃ n:Int,vs=[.int n]/\∀ H',aY H H'->Q (.bl true) H'
def spATu:Sp:=fun vs H Q _=>∃ (a:Addr) (css:List (List Int)),vs=[.ref a]/\gX H a css/\css.length<=1000/\(∀ c∈css,c.length<=3)/\∀ H',aY H H'->Q (.bl true) H'
def spRfd:Sp:=fun vs H Q _=>∃ (p:Addr) (way:Int) (ks:List Str) (rs:List Rw),vs=[.ref p,.int way]/\sY H p ks rs/\400 < mD (cX rs ks.length)/\∀ H',aY H H'->Q (.int 400) H'
namespace eO
end eO
open PySem L2
namespace eO
end eO
open PySem L2
end Mine
namespace L2
open PySem PySem.Spec PyProof.Rows
section
variable {X:Cx}
end
section
variable {prog:Program}{w:World}{A:Around}{E:Value->Shared->Prop}{s:Shared}
end
section
variable {X:Cx}{pos:Pos}
end
theorem fJ {K:PySem.W.Frag}{a:Addr}{xs:List V}{g:TG}{tb:TS}{D:dQ}{σ: St}{H:Hp}(Pv:Nat->St->Hp->Prop) (h0:Pv 0 σ H) (hl:∀ i σ H,i<=xs.length->Pv i σ H->bH K H a xs)
  (hs:∀ (D':dQ) (N:St->Hp->Prop),∀ i,(∀ σ H,Pv (i+1) σ H->N σ H)->∀ x σ H,xs[i]?=some x->Pv i σ H->g x σ H fun σ2 H2=>tb { D' with nx:=N,ct:=N,bk:=D'.nx } σ2 H2) (hd:∀ σ H,Pv xs.length σ H->D.nx σ H) :
  ∃ W:Nat->Nat->St->Hp->Prop,(∃ m,W 0 m σ H)/\∀ i m σ H,W i m σ H ->
   ((uW K a).stop i H/\D.nx σ H)\/((uW K a).go i H/\∃ N:St->Hp->Prop,(∀ σ' H',N σ' H'->∃ m',m' < m/\W (i+1) m' σ' H')/\∀ x H',(uW K a).yld i H x H'->g x σ H' fun σ2 H2=>tb { D with nx:=N,ct:=N,bk:=D.nx } σ2 H2):=uG Pv h0 hl (fun D' i x σ H hi p=>hs D' (Pv (i+1)) i (fun _ _ z=>z) x σ H hi p) hd
theorem eQ {K:PySem.W.Frag}{a:Addr}{xs:List V}{g:TG}{tb:TS}{D:dQ}{σ: St}{H:Hp}(Pv:Nat->St->Hp->Prop) (h0:Pv 0 σ H) (hl:∀ i σ H,i<=xs.length->Pv i σ H->bA K H a xs)
  (hs:∀ (D':dQ) (N:St->Hp->Prop),∀ i,(∀ σ H,Pv (i+1) σ H->N σ H)->∀ x σ H,xs[i]?=some x->Pv i σ H->g x σ H fun σ2 H2=>tb { D' with nx:=N,ct:=N,bk:=D'.nx } σ2 H2) (hd:∀ σ H,Pv xs.length σ H->D.nx σ H) :
  ∃ W:Nat->Nat->St->Hp->Prop,(∃ m,W 0 m σ H)/\∀ i m σ H,W i m σ H ->
   ((uV K a).stop i H/\D.nx σ H)\/((uV K a).go i H/\∃ N:St->Hp->Prop,(∀ σ' H',N σ' H'->∃ m',m' < m/\W (i+1) m' σ' H')/\∀ x H',(uV K a).yld i H x H'->g x σ H' fun σ2 H2=>tb { D with nx:=N,ct:=N,bk:=D.nx } σ2 H2):=xJ Pv h0 hl (fun D' i x σ H hi p=>hs D' (Pv (i+1)) i (fun _ _ z=>z) x σ H hi p) hd
theorem fX {lo:Int}{n:Nat}{g:TG}{tb:TS}{D:dQ}{σ: St}{H:Hp}(Pv:Nat->St->Hp->Prop) (h0:Pv 0 σ H)
  (hs:∀ (D':dQ) (N:St->Hp->Prop),∀ i,(∀ σ H,Pv (i+1) σ H->N σ H)->∀ σ H,i < n->Pv i σ H->g (.int (lo+i)) σ H fun σ2 H2=>tb { D' with nx:=N,ct:=N,bk:=D'.nx } σ2 H2) (hd:∀ σ H,Pv n σ H->D.nx σ H) :
  ∃ W:Nat->Nat->St->Hp->Prop,(∃ m,W 0 m σ H)/\∀ i m σ H,W i m σ H ->
   ((sD lo n).stop i H/\D.nx σ H)\/((sD lo n).go i H/\∃ N:St->Hp->Prop,(∀ σ' H',N σ' H'->∃ m',m' < m/\W (i+1) m' σ' H')/\∀ x H',(sD lo n).yld i H x H'->g x σ H' fun σ2 H2=>tb { D with nx:=N,ct:=N,bk:=D.nx } σ2 H2):=iL Pv h0 (fun D' i σ H hi p=>hs D' (Pv (i+1)) i (fun _ _ z=>z) σ H hi p) hd
section
variable {P:Program}{w:World}{K:W.Frag}{mg:Str->Option Value}{base:Heap}
def ClY (P:Program) (w:World) (K:W.Frag) (mg:Str->Option Value) (base:Heap) (n:Nat) (sp:Sp) (x:Str):Prop:=∃ f d ps,fU P w K mg base (jM P w) n f d ps sp/\dO K d ps []/\W.keepIn K (.ref f)=true/\mg x=some (.ref f)
def aE8 (P:Program) (w:World) (K:W.Frag) (mg:Str->Option Value) (base:Heap) (x q:Str) (st:Stmt) (n:Nat) (ps:List Str) (sp:Sp):Prop:=∀ {f:Addr}{d:FuncData},lO K x q st f d->fU P w K mg base (jM P w) n f d ps sp
theorem aX2 {x q:Str}{st:Stmt}{k:Nat}{ps:List Str}{sp:Sp}(N:List Str)
  (hb:∀ {f:Addr}{cdv:Value}{A:Around}{outer:List Env}{s:Shared}{vs:List V}{E:XK}(H:Hp) (Q:VK),N.Nodup->cF k (A.deeper (envOfC q (aI st) s.heap.objs.size f cdv))->sp vs H Q E ->
   ∃ t,kE (dP (jM P w) P w K mg base N q (aI st) f cdv A outer s H E) (aS st) t/\t { nx:=fun _ H'=>Q .non H',rt:=Q } (dX N vs) H)
  (len:autoParam (∀ vs H Q E,sp vs H Q E->vs.length=ps.length) Rq6._auto_1)
  (S:autoParam (eB N ps (aI st)) Rq5._auto_1):aE8 P w K mg base x q st (k+1) ps sp :=
 fun F=>F.okY S len fun _ _ _ _ H _ Q _ hr h=>hb H Q S.nd hr h
theorem aW2 {x q:Str}{st:Stmt}{k:Nat}{ps:List Str}{sp:Sp}(N:List Str)
  (hb:∀ {f:Addr}{cdv:Value}{A:Around}{outer:List Env}{s:Shared}{vs:List V}{E:XK}(H:Hp) (Q:VK),N.Nodup->cF k (A.deeper (envOfC q (aI st) s.heap.objs.size f cdv))->sp vs H Q E ->
   ∃ t,pQ (dP qM P w K mg base N q (aI st) f cdv A outer s H E).nox (aS st) t/\t { nx:=fun _ H'=>Q .non H',rt:=Q } (dX N vs) H)
  (len:autoParam (∀ vs H Q E,sp vs H Q E->vs.length=ps.length) Rq6._auto_1)
  (S:autoParam (eB N ps (aI st)) Rq5._auto_1):eU P w K mg base x q st (k+1) ps sp :=
 fun F=>F.ok0 S len fun _ _ _ _ H _ Q _ hr h=>hb H Q S.nd hr h
variable {x p1 p2:Str}{st:Stmt}{n:Nat}{sp:Sp}
def Mk2 (P:Program) (w:World) (K:W.Frag) (mg:Str->Option Value) (base:Heap) (C:Addr) (sp:Sp) (x:Str):Prop:=∃ (D i:Addr) (e:FuncData) (o:Obj) (ps:List Str),XMk K C D (some (.ref i))/\K.lookup i=some o/\o.cls= .type "function"/\fU P w K mg base qM 1 i e ps sp/\dO K e ps []/\mg x=some (.ref C)
end
section
variable {X:Cx}{x:Str}{p pos:Pos}{e:Expr}{es:List Expr}{t:TA}
theorem aS6 {k:Nat}{sp:Sp}{E:XK}(C:ClY X.prog X.w X.K X.mg X.base k sp x) {n:Nat}(hr:cF n X.A) (hx:fD (jM X.prog X.w) X E) (ha:PA X (e :: es) t) (hn:autoParam (k<=n) Rq7._auto_1) (hg:autoParam (Gl X x) Rq0._auto_1) (hdb:autoParam ((x == ("__debug__": Str))=false) Rq1._auto_1) (he:autoParam (starEach (e :: es) X.env=(false,eval e X.env) :: starEach es X.env) Rq0._auto_1)
  (hpl:autoParam ((backTo pos (starEach es X.env)).any (·.1)=false) Rq0._auto_1):PE X (.Call (.Name x p) (e :: es) [] pos) (rY sp [] E t):=by obtain ⟨_,_,_,g,b,k,m⟩:=C;exact oR g (hr.mono hn) hg m k b .nil hx ha hdb he hpl
end
section
variable {P:Program}{w:World}{K:W.Frag}{mg:Str->Option Value}{base:Heap}{N:List Str}{qual:Str}{scope:Scope}{f:Addr}{cd:Value}{A:Around}{outer:List Env}{s:Shared}{H:Hp}{E:XK}
theorem tN {C:Addr}{sp:Sp}{x:Str}{p pos pos':Pos}{e:Expr}{es:List Expr}{t:TA}{n:Nat}(M:Mk2 P w K mg base C sp x) (hr:cF n (dP (jM P w) P w K mg base N qual scope f cd A outer s H E).A) (ha:PA (dP (jM P w) P w K mg base N qual scope f cd A outer s H E) (e :: es) t) (hn:autoParam (2<=n) Rq7._auto_1) (hg:autoParam (Gl (dP (jM P w) P w K mg base N qual scope f cd A outer s H E) x) Rq0._auto_1) (hdb:autoParam ((x == ("__debug__": Str))=false) Rq1._auto_1)
  (he:autoParam (starEach (e :: es) (dP (jM P w) P w K mg base N qual scope f cd A outer s H E).env=(false,eval e (dP (jM P w) P w K mg base N qual scope f cd A outer s H E).env) :: starEach es (dP (jM P w) P w K mg base N qual scope f cd A outer s H E).env) Rq0._auto_1) (hpl:autoParam ((backTo pos (starEach es (dP (jM P w) P w K mg base N qual scope f cd A outer s H E).env)).any (·.1)=false) Rq0._auto_1) :
  PS (dP (jM P w) P w K mg base N qual scope f cd A outer s H E) (.Raise (some (.Call (.Name x p) (e :: es) [] pos)) .none pos') (fun _ σ H1=>sS C sp E0 t σ H1 fun v H2=>∃ x dx,v= .ref x/\H2 x=some (tJ x C dx)/\H x= .none/\E (.ref C) (some dx) (zZ H2 x)) :=by
 obtain ⟨_,_,_,_,_,M1,l,h,F,b,m⟩:=M;exact tQ M1 (uF M1 l h F (hr.mono hn) hg m b aA8 ha hdb he hpl)
end
theorem xQ {X:Cx}(K:W.Frag) {f:Str}{e:Expr}{pos:Pos}{ta:TE}(he:PE X e ta) (hb:autoParam (attributeBase e f X.env (eval e X.env)=eval e X.env) Rq0._auto_1) (hK:autoParam (X.K=K) Rq0._auto_1):PE X (.Attribute e f pos) (aC5 K ta f):=by subst hK;exact yY he hb
section
variable {P:Program}{w:World}{K:W.Frag}{mg:Str->Option Value}{base:Heap}
structure aV4 (K:W.Frag) (x qual:Str) (st:Stmt) (f:Addr) (fd:FuncData):Prop where
 ex:∃ (oc:Value) (od:Option Addr) (dV kV doc pm:Value) (an:Option Addr) (cdv ct:Value) (osl:Array (Option Value)),
  fd=W.fnOf x qual (bD st) (aS st) (aI st) dV kV doc pm an cdv ct/\K.lookup f=some ⟨oc,od,.func fd,osl⟩/\W.codeIn K cdv qual=true
def aM0 (K:W.Frag) (x:Str) (st:Stmt) (f:Addr) (i:Int):Prop:=∃ (oc:Value) (od:Option Addr) (T:Addr) (kV dc pm:Value) (an:Option Addr) (cd ct:Value) (sl:Array (Option Value)) (o:Obj) (n:Nat) (t:Tok),K.lookup f=some ⟨oc,od,.func (W.fnOf x x (bD st) (aS st) (aI st) (.ref T) kV dc pm an cd ct),sl⟩/\W.codeIn K cd x=true/\W.keepIn K (.ref f)=true/\K.lookup T=some o/\o.data= .seq #[.int i t] n
def TopAtD (K:W.Frag) (x:Str) (st:Stmt) (i:Int):Prop:=∃ f,W.nsIn K mainGlobals x=some (some (.ref f))/\aM0 K x st f i
theorem TopAtD.of {x:Str}{st:Stmt}{i:Int}{f:Addr}{oc:Value}{od:Option Addr}{T:Addr}{kV dc pm:Value}{an:Option Addr}{cd ct:Value}{sl:Array (Option Value)}{oc2:Value}{od2:Option Addr}{n:Nat}{t:Tok}{sl2:Array (Option Value)}(a:W.nsIn K mainGlobals x=some (some (.ref f))) (l:K.lookup f=some ⟨oc,od,.func (W.fnOf x x (bD st) (aS st) (aI st) (.ref T) kV dc pm an cd ct),sl⟩) (c:W.codeIn K cd x=true) (k:W.keepIn K (.ref f)=true) (h:K.lookup T=some ⟨oc2,od2,.seq #[.int i t] n,sl2⟩):TopAtD K x st i:=⟨_,a,_,_,_,_,_,_,_,_,_,_,_,_,_,l,c,k,h,rfl⟩
end
section
variable {X:Cx}{x:Str}{p pos:Pos}{e:Expr}{es:List Expr}{t:TA}
end
section
variable {P:Program}{w:World}{K:W.Frag}{mg:Str->Option Value}{base:Heap}
def kF (P:Program) (w:World) (K:W.Frag) (mg:Str->Option Value) (base:Heap) (x q:Str) (st:Stmt) (n:Nat) (ps:List Str) (sp:Sp):Prop:=∀ {f:Addr}{d:FuncData},aV4 K x q st f d->fU P w K mg base (jM P w) n f d ps sp
theorem xF {x q:Str}{st:Stmt}{k:Nat}{ps:List Str}{sp:Sp}(N:List Str)
  (hb:∀ {f:Addr}{cdv:Value}{A:Around}{outer:List Env}{s:Shared}{vs:List V}{E:XK}(H:Hp) (Q:VK),N.Nodup->cF k (A.deeper (envOfC q (aI st) s.heap.objs.size f cdv))->sp vs H Q E ->
   ∃ t,kE (dP (jM P w) P w K mg base N q (aI st) f cdv A outer s H E) (aS st) t/\t { nx:=fun _ H'=>Q .non H',rt:=Q } (dX N vs) H)
  (len:autoParam (∀ vs H Q E,sp vs H Q E->vs.length=ps.length) Rq6._auto_1)
  (S:autoParam (eB N ps (aI st)) Rq5._auto_1):kF P w K mg base x q st (k+1) ps sp:=fun F=>by
 obtain ⟨oc,od,dV,kV,doc,pm,an,cdv,ct,osl,rfl,lk,hcd⟩:=F.ex;exact wX lk hcd S len fun A outer s H vs Q E hr hsp=>hb H Q S.nd hr hsp
def kZ (P:Program) (w:World) (K:W.Frag) (mg:Str->Option Value) (base:Heap) (n:Nat) (sp:Sp) (x:Str) (dvs:List V):Prop:=∃ f d ps ds,fU P w K mg base (jM P w) n f d ps sp/\dO K d ps ds/\aV dvs ds/\W.keepIn K (.ref f)=true/\mg x=some (.ref f)
section
variable {x p1 p2 p3 p4:Str}{st:Stmt}{n:Nat}{sp:Sp}{i:Int}(Z:Zx P w K mg base) (t:TopAtD K x st i)
include Z t
theorem Zx.yd1 (ok:kF P w K mg base x x st n [p1,p2] sp)
  (h:autoParam (∀ (T:Addr) (kV doc pm:Value) (an:Option Addr) (cdv ct u1:Value),∃ k,bindArgs (W.fnOf x x (bD st) (aS st) (aI st) (.ref T) kV doc pm an cdv ct) ⟨[u1],[]⟩=seqItems? (.ref T) >>= k/\∀ v,k (some #[v])=pure [(p1,u1),(p2,v)]) Rq8._auto_1):kZ P w K mg base n sp x [.int i]:=by
 obtain ⟨f,a,oc,od,T,kV,dc,pm,an,cd,ct,sl,o,m,tk,l,c,k,h1,h2⟩:=t;refine ⟨f,_,_,[.int i tk],ok ⟨_,_,_,_,_,_,_,_,_,_,rfl,l,c⟩,fun s us hK hl=>?_,.cons ⟨tk,rfl⟩ .nil,k,Z.ns _ _ a⟩;rw [ap] at hl;have hl:us.length=1:=lq hl;obtain ⟨u1,r1,rfl,e1⟩:=bB (n:=0) hl
 cases cj.mp e1
 obtain ⟨kk,b1,b2⟩:=h T kV dc pm an cd ct u1;exact ii rfl (hK _ _ h1) h2 b1 (b2 _)
theorem Zx.yd3 (ok:kF P w K mg base x x st n [p1,p2,p3] sp)
  (h:autoParam (∀ (T:Addr) (kV doc pm:Value) (an:Option Addr) (cdv ct u1 u2:Value),∃ k,bindArgs (W.fnOf x x (bD st) (aS st) (aI st) (.ref T) kV doc pm an cdv ct) ⟨[u1,u2],[]⟩=seqItems? (.ref T) >>= k/\∀ v,k (some #[v])=pure [(p1,u1),(p2,u2),(p3,v)]) Rq8._auto_1):kZ P w K mg base n sp x [.int i]:=by
 obtain ⟨f,a,oc,od,T,kV,dc,pm,an,cd,ct,sl,o,m,tk,l,c,k,h1,h2⟩:=t;refine ⟨f,_,_,[.int i tk],ok ⟨_,_,_,_,_,_,_,_,_,_,rfl,l,c⟩,fun s us hK hl=>?_,.cons ⟨tk,rfl⟩ .nil,k,Z.ns _ _ a⟩;rw [ap] at hl;have hl:us.length=2:=lq hl;obtain ⟨u1,r1,rfl,e1⟩:=bB (n:=1) hl;obtain ⟨u2,r2,rfl,e2⟩:=bB (n:=0) e1
 cases cj.mp e2
 obtain ⟨kk,b1,b2⟩:=h T kV dc pm an cd ct u1 u2;exact ii rfl (hK _ _ h1) h2 b1 (b2 _)
theorem Zx.yd4 (ok:kF P w K mg base x x st n [p1,p2,p3,p4] sp)
  (h:autoParam (∀ (T:Addr) (kV doc pm:Value) (an:Option Addr) (cdv ct u1 u2 u3:Value),∃ k,bindArgs (W.fnOf x x (bD st) (aS st) (aI st) (.ref T) kV doc pm an cdv ct) ⟨[u1,u2,u3],[]⟩=seqItems? (.ref T) >>= k/\∀ v,k (some #[v])=pure [(p1,u1),(p2,u2),(p3,u3),(p4,v)]) Rq8._auto_1):kZ P w K mg base n sp x [.int i]:=by
 obtain ⟨f,a,oc,od,T,kV,dc,pm,an,cd,ct,sl,o,m,tk,l,c,k,h1,h2⟩:=t;refine ⟨f,_,_,[.int i tk],ok ⟨_,_,_,_,_,_,_,_,_,_,rfl,l,c⟩,fun s us hK hl=>?_,.cons ⟨tk,rfl⟩ .nil,k,Z.ns _ _ a⟩;rw [ap] at hl;have hl:us.length=3:=lq hl;obtain ⟨u1,r1,rfl,e1⟩:=bB (n:=2) hl;obtain ⟨u2,r2,rfl,e2⟩:=bB (n:=1) e1;obtain ⟨u3,r3,rfl,e3⟩:=bB (n:=0) e2
 cases cj.mp e3
 obtain ⟨kk,b1,b2⟩:=h T kV dc pm an cd ct u1 u2 u3;exact ii rfl (hK _ _ h1) h2 b1 (b2 _)
theorem Zx.ya2 (ok:kF P w K mg base x x st n [p1,p2] sp)
  (h:autoParam (∀ (T:Addr) (kV doc pm:Value) (an:Option Addr) (cdv ct u1 u2:Value),∃ k,bindArgs (W.fnOf x x (bD st) (aS st) (aI st) (.ref T) kV doc pm an cdv ct) ⟨[u1,u2],[]⟩=seqItems? (.ref T) >>= k/\∀ v,k (some #[v])=pure [(p1,u1),(p2,u2)]) Rq8._auto_1):kZ P w K mg base n sp x []:=by
 obtain ⟨f,a,oc,od,T,kV,dc,pm,an,cd,ct,sl,o,m,tk,l,c,k,h1,h2⟩:=t;refine ⟨f,_,_,[],ok ⟨_,_,_,_,_,_,_,_,_,_,rfl,l,c⟩,fun s us hK hl=>?_,.nil,k,Z.ns _ _ a⟩;rw [dm] at hl ⊢;obtain ⟨u1,r1,rfl,e1⟩:=bB (n:=1) hl;obtain ⟨u2,r2,rfl,e2⟩:=bB (n:=0) e1
 cases cj.mp e2
 obtain ⟨kk,b1,b2⟩:=h T kV dc pm an cd ct u1 u2;exact ii rfl (hK _ _ h1) h2 b1 (b2 _)
end
theorem Zx.y2 {x p1 p2:Str}{st:Stmt}{n:Nat}{sp:Sp}(Z:Zx P w K mg base) (t:TopAt K x st) (ok:aE8 P w K mg base x x st n [p1,p2] sp) (h:autoParam (∀ (kV doc pm:Value) (an:Option Addr) (cdv ct u1 u2:Value),bindArgs (W.fnOf x x (bD st) (aS st) (aI st) .none kV doc pm an cdv ct) ⟨[u1,u2],[]⟩=pure [(p1,u1),(p2,u2)]) Rq4._auto_1):ClY P w K mg base n sp x :=by
 obtain ⟨_,a,t⟩:=t;obtain ⟨_,F⟩:=t.fn;exact ⟨_,_,_,ok F,F.b2 h,F.kp,Z.ns _ _ a⟩
end
section
variable {X:Cx}{x:Str}{p pos:Pos}{e:Expr}{es:List Expr}{t:TA}
theorem jY {k:Nat}{sp:Sp}{dvs:List V}{E:XK}(C:kZ X.prog X.w X.K X.mg X.base k sp x dvs) {n:Nat}(hr:cF n X.A) (hx:fD (jM X.prog X.w) X E) (ha:PA X (e :: es) t) (hn:autoParam (k<=n) Rq7._auto_1) (hg:autoParam (Gl X x) Rq0._auto_1) (hdb:autoParam ((x == ("__debug__": Str))=false) Rq1._auto_1) (he:autoParam (starEach (e :: es) X.env=(false,eval e X.env) :: starEach es X.env) Rq0._auto_1)
  (hpl:autoParam ((backTo pos (starEach es X.env)).any (·.1)=false) Rq0._auto_1):PE X (.Call (.Name x p) (e :: es) [] pos) (rY sp dvs E t):=by obtain ⟨_,_,_,_,g,b,v,k,m⟩:=C;exact oR g (hr.mono hn) hg m k b v hx ha hdb he hpl
end
theorem sZ (a v:Value):argsOk "max" ⟨[a],[(Str.ofString "default",v)]⟩:=by unfold argsOk;kernel_rfl
section
variable {prog:Program}{w:World}{A:Around}{R:Result->Shared->Prop}{I:Addr}{fp wr:List Addr}{n:Nat}{Pv:Nat->Value->Prop}{St:Nat->Heap->Prop}{kw:List (Str×Value)}
theorem vS (W:Walks prog w A.in1 I fp wr n Pv St) (bt:Nat->Nat->Bool) (cmp:CmpOf prog w A.in1 .Gt Pv bt) (S:Addr) (nS:S∉fp) (k:Nat) :
  ∀ (j:Nat) (s:Shared) (best:Value) (c:Nat),j+1+k=n->St (j+1) s.heap->Pv (argBest bt j) best->s.heap.get? S=some (seqObj "list" #[best,best] c) ->
  (∀ v h' tk,Pv (argBest bt (n - 1)) v->(∀ b o,b∉wr->b≠S->s.heap.get? b=some o->h'.get? b=some o)->R (.ok (.ret v)) { s with heap:=h',toks:=tk }) ->
  codeAny (model prog w) A (.builtin "max.loop" ⟨[.ref I,.none,.ref S],kw⟩) R s:=by
 have nm:(toString "max"++toString ".loop": String)="max.loop":=by decide
 have wS:S∉wr:=fun h=>nS (W.sub _ h)
 induction k with
 |zero =>
  intro j s best c hn hst hb hS q;have e:j+1=n:=hn;refine mi lu ?_;rw [js ft _];show wpAny _ A.in1 (seqItems? (.ref S) >>= _) _ _ s;refine aa (oa hS rfl ?_);show wpAny _ A.in1 (tryCatch (pyNext (.ref I)) _ >>= _) _ _ s;refine aa (iw (W.done s _ _ (e ▸ hst) fun h' tk hk=>?_));have hS':=hk S _ wS hS;show wpAny _ A.in1 (updateSeq S (fun _=> #[]) >>= _) _ _ _;refine aa (mj hS' rfl (aa (nj (am ?_))));exact q best _ tk (by rw [<- e];exact hb) fun b o bw bS z=>(dq _ _ (Ne.symm bS)).trans (hk b o bw z)
 |succ k ih =>
  intro j s best c hn hst hb hS q;have lt:j+1 < n:=by omega
  refine mi lu ?_;rw [js ft _];show wpAny _ A.in1 (seqItems? (.ref S) >>= _) _ _ s;refine aa (oa hS rfl ?_);show wpAny _ A.in1 (tryCatch (pyNext (.ref I)) _ >>= _) _ _ s;refine aa (iw (W.item (j+1) s _ _ lt hst fun v h' tk hv hst' hk=>?_));have hS':=hk S _ wS hS;show wpAny _ A.in1 (tryCatch (holding [v,v] (richCompare .Gt v best >>= _)) _ >>= _) _ _ _;refine aa (iw (gf (aa (cmp (j+1) (argBest bt j) v best _ _ _ hv hb ?_))));refine aa (gf (gg (aa (nj (am ?_)))))
  cases z:bt (j+1) (argBest bt j) with
  |true =>
   simp only [if_true];refine aa (mj hS' rfl (aa (nj ?_)));rw [nm];refine am ⟨km ft _,ih (j+1) _ v _ (by omega) (W.frame _ _ _ hst' fun b bf o e=>?_) (by simp only [argBest,z,if_true];exact hv) (dy _ hS' rfl) fun v' h2 tk2 hv' hk2=>?_⟩
   ·exact (dq _ _ (fun h:S=b=>nS (by rw [h];exact bf))).trans e
   ·exact q v' h2 tk2 hv' fun b o bw bS e=>hk2 b o bw bS ((dq _ _ (Ne.symm bS)).trans (hk b o bw e))
  |false =>
   simp only [Bool.false_eq_true,if_false];refine aa (nj ?_);rw [nm];exact am ⟨km ft _,ih (j+1) _ best c (by omega) hst' (by simp only [argBest,z,Bool.false_eq_true,if_false];exact hb) hS' fun v' h2 tk2 hv' hk2=>q v' h2 tk2 hv' fun b o bw bS e=>hk2 b o bw bS (hk b o bw e)⟩
end
section
variable {prog:Program}{w:World}{A:Around}{E:Value->Shared->Prop}{s:Shared}
theorem tM {x d:Value}{Q:Value->Shared->Prop}
  (h:wpAny (model prog w) A.in1 (pyIter x) (fun it s2=>∃ I fp wr n Pv St bt,it= .ref I/\Walks prog w A.in1 I fp wr n Pv St/\St 0 s2.heap/\(∀ b∈fp,b < s2.heap.objs.size)/\CmpOf prog w A.in1 .Gt Pv bt /\
   ∀ v h' tk,(0 < n/\Pv (argBest bt (n - 1)) v\/n=0/\v=d)->(∀ b o,b∉wr->s2.heap.get? b=some o->h'.get? b=some o)->Q v { s2 with heap:=h',toks:=tk }) E s) :
  wpAny (model prog w) A (call (.builtin "max") [x] [(Str.ofString "default",d)]) Q E s:=by
 have nm:(toString "max"++toString ".loop": String)="max.loop":=by decide
 refine kmb_tree F.kind_max F.plain_max F.entry_max (sZ _ _) ?_;show wpAny _ A.in1 (Builtin.Builtins.bindParams "max" ["key","default"] 0 ⟨[],[(Str.ofString "default",d)]⟩ >>= _) _ _ s;refine aa (wpAny_of_eq (show Builtin.Builtins.bindParams "max" ["key","default"] 0 ⟨[],[(Str.ofString "default",d)]⟩=pure [none,some d] from rfl) ?_);refine aa (am ?_);refine aa (bi h (fun it s2 h2=>?_) fun _ _ e=>e);obtain ⟨I,fp,wr,n,Pv,St,bt,rfl,W,hst,hfp,cmp,q⟩:=h2;refine aa (gt ?_);rw [nm];have nS:s2.heap.objs.size∉fp:=fun m=>di _ (hfp _ m)
 have wS:s2.heap.objs.size∉wr:=fun h=>nS (W.sub _ h)
 have hS:(s2.heap.push (seqObj "list" #[] 0)).get? s2.heap.objs.size=some (seqObj "list" #[] 0):=bn _ rfl;have st0:St 0 (s2.heap.push (seqObj "list" #[] 0)):=W.frame _ _ _ hst fun b _ o e=>af _ e
 refine am ⟨km ft _,?_⟩;refine mi lu ?_;rw [js ft _];show wpAny _ A.in1 (seqItems? (.ref s2.heap.objs.size) >>= _) _ _ _;refine aa (oa hS rfl ?_);show wpAny _ A.in1 (tryCatch (pyNext (.ref I)) _ >>= _) _ _ _
 cases n with
 |zero =>
  refine aa (iw (W.done _ _ _ st0 fun h' tk hk=>?_));show wpAny _ A.in1 (rule _ >>= _) _ _ _;refine aa (wpAny_rule (am ?_));exact q d h' tk (.inr ⟨rfl,rfl⟩) fun b o bw e=>hk b o bw (af _ e)
 |succ n =>
  refine aa (iw (W.item 0 _ _ _ (Nat.succ_pos _) st0 fun v h' tk hv hst' hk=>?_));have hS':=hk _ _ wS hS;show wpAny _ A.in1 (updateSeq s2.heap.objs.size (fun _=> #[v,v]) >>= _) _ _ _;refine aa (mj hS' rfl ?_);rw [nm];refine am ⟨km ft _,vS W bt cmp s2.heap.objs.size nS n 0 _ v _ (by omega) (W.frame _ _ _ hst' fun b bf o e=>?_) hv (dy _ hS' rfl) fun v' h2 tk2 hv' hk2=>?_⟩
  ·exact (dq _ _ (fun h:s2.heap.objs.size=b=>nS (by rw [h];exact bf))).trans e
  ·refine q v' h2 tk2 (.inl ⟨Nat.succ_pos _,hv'⟩) fun b o bw e=>?_
   have nb:b≠s2.heap.objs.size:=av (al e);exact hk2 b o bw nb ((dq _ _ (Ne.symm nb)).trans (hk b o bw (af _ e)))
end
def aB4 (K:W.Frag) (t:TA) (tv:TE):TE:=fun σ H Q=>t σ H fun xs H1=>tv σ H1 fun d H2=>∃ (p:Addr) (ns:List Int),xs=[.ref p]/\bH K H2 p (ns.map V.int)/\(ns=[]->Q d H2)/\∀ i∈ns,(∀ n∈ns,n<=i)->Q (.int i) H2
theorem yJ {X:Cx}{e v:Expr}{kp p pos:Pos}{t:TA}{tv:TE}(hm:X.mg "max"=none) (ha:PA X [e] t) (hv:PE X v tv) (hg:autoParam (Gl X "max") Rq0._auto_1) (hc:autoParam (X.calm=true) Rq0._auto_1) (hb:bootBuiltins "max"=some (.builtin "max"):=by decide +kernel)
  (he:autoParam (backTo pos (starEach [e] X.env)=(false,eval e X.env) :: backTo pos (starEach [] X.env)) Rq0._auto_1) (hpl:autoParam ((backTo pos (starEach [e] X.env)).any (·.1)=false) Rq0._auto_1):PE X (.Call (.Name "max" p) [e] [⟨some "default",v,kp⟩] pos) (aB4 X.K t tv):=by
 intro pins s σ H Q I h;refine fw (iN I hg hm hb ?_ (by decide) (by decide));refine callWith_kw (bZ (ha pos pins s σ H _ I h) ?_) he hpl;rintro us s1 ⟨xs,H1,I1,r1,q1⟩;refine kws_cons (bZ (hv pins s1 σ H1 _ I1 q1) ?_);rintro dv s2 ⟨d,H2,I2,rd,p,ns,ex,hq,q0,q⟩;refine kws_nil ?_;subst ex;obtain ⟨u,rfl,ru⟩:=mJ r1
 cases ru
 show wpAny _ _ (call (.builtin "max") [.ref p] [(Str.ofString "default",dv)]) _ _ _;obtain ⟨its,rv,pl,hz⟩:=I2.list hq;have it:=pl.isList;have lp:p < s2.heap.objs.size:=by
  obtain ⟨o,e,_⟩:=it;exact al e
 have hl:=rv.length;rw [ac] at hl;have val:∀ i v,its.toArray[i]?=some v->∃ t,v=Value.int (ns.getD i 0) t:=fun i v hv=>by
  have hi:its[i]?=some v:=by simpa using hv
  have hb:i < ns.length:=by
   have:=(bu.mp hi).1;omega
  obtain ⟨u,hu,ru⟩:=rv.get (i:=i) (x:=V.int ns[i]) (by rw [fe,bp hb];rfl);rw [hi] at hu
  cases hu
  obtain ⟨t,e⟩:=ru;exact ⟨t,by rw [e];simp [List.getD,hb]⟩
 refine tM (qm it ⟨s2.heap.objs.size,_,_,_,_,_,_,rfl,Walks.list (A:=X.A.in1) (I2.ok.hd hc) s2.heap.objs.size p (av lp) its.toArray,⟨⟨_,bn _ rfl,rfl,rfl⟩,it.at fun o e=>af _ e⟩,?_,CmpOf.ints_gt (fun i=>ns.getD i 0) val,?_⟩)
 ·intro b hb;rw [iu];rcases bv.mp hb with z | z
  ·rw [z];exact dh _
  ·have z:b=p:=by simpa using z
   rw [z];exact ja lp
 ·intro v h' tk hv hk;have kept:∀ b o,s2.heap.get? b=some o->h'.get? b=some o:=fun b o e=>hk b o (by
   intro z;have z:b=s2.heap.objs.size:=by simpa using z
   exact absurd (al e) (by rw [z];exact di _)) (af _ e)
  rcases hv with ⟨hn,hv⟩ | ⟨hn,rfl⟩
  ·have hv2:its.toArray[argBest (fun i j=>decide (ns.getD i 0 > ns.getD j 0)) (its.toArray.size - 1)]?=some v:=hv;have hin:argBest (fun i j=>decide (ns.getD i 0 > ns.getD j 0)) (its.toArray.size - 1) < ns.length:=by
    have:its[argBest (fun i j=>decide (ns.getD i 0 > ns.getD j 0)) (its.toArray.size - 1)]?=some v:=by simpa using hv2
    have:=(bu.mp this).1;omega
   obtain ⟨t,rfl⟩:=val _ _ hv;refine ⟨.int _,H2,I2.kept kept,⟨t,rfl⟩,q _ ?_ fun n hn=>?_⟩
   ·rw [fm,bp hin];exact ia hin
   obtain ⟨i,hi,e⟩:=List.mem_iff_getElem.mp hn;have:=pX (fun i=>ns.getD i 0) (its.toArray.size - 1) i (by rw [au, <- hl];omega);rw [show ns.getD i 0=n by simp [List.getD,hi,e]] at this;exact this
  ·have n0:ns=[]:=by
    rw [au, <- hl] at hn;exact cj.mp hn
   exact ⟨d,H2,I2.kept kept,rd,q0 n0⟩
theorem aC7 {X:Cx}(K:W.Frag) {e v:Expr}{kp p pos:Pos}{t:TA}{tv:TE}(hm:X.mg "max"=none) (ha:PA X [e] t) (hv:PE X v tv) (hK:autoParam (X.K=K) Rq0._auto_1) (hg:autoParam (Gl X "max") Rq0._auto_1) (hc:autoParam (X.calm=true) Rq0._auto_1)
  (he:autoParam (backTo pos (starEach [e] X.env)=(false,eval e X.env) :: backTo pos (starEach [] X.env)) Rq0._auto_1) (hpl:autoParam ((backTo pos (starEach [e] X.env)).any (·.1)=false) Rq0._auto_1):PE X (.Call (.Name "max" p) [e] [⟨some "default",v,kp⟩] pos) (aB4 K t tv):=by subst hK;exact yJ hm ha hv hg hc (by decide +kernel) he hpl
theorem nA {x₀:Str}(n:Nat) (acc:List (Str×Addr)):∀ {names:List (Str×NameKind)},(names.filter fun y=>y.2 == NameKind.cell)=[(x₀,.cell)]->cellsFrom n names acc=(x₀,n) :: acc
 |[],h=>by cases h
 |(y,k) :: r,h=>by
  unfold cellsFrom
  by_cases c:(k == NameKind.cell)=true
  ·rw [cy (p:=fun y:Str×NameKind=>y.2 == NameKind.cell) c] at h;injection h with h1 h2
   rw [bj c];have:∀ {r:List (Str×NameKind)}(n:Nat) (acc:List (Str×Addr)),(r.filter fun y=>y.2 == NameKind.cell)=[]->cellsFrom n r acc=acc:=by
    intro r
    induction r with
    |nil=>intro n acc _;rfl
    |cons p r ih =>
     obtain ⟨y,k⟩:=p;intro n acc e;unfold cellsFrom
     by_cases c:(k == NameKind.cell)=true
     ·rw [cy (p:=fun y:Str×NameKind=>y.2 == NameKind.cell) c] at e;cases e
     ·rw [bz (p:=fun y:Str×NameKind=>y.2 == NameKind.cell) c] at e;rw [ar c];exact ih n acc e
   rw [this _ _ h2,show y=x₀ from ee Prod.fst h1]
  ·rw [bz (p:=fun y:Str×NameKind=>y.2 == NameKind.cell) c] at h;rw [ar c];exact nA n acc h
theorem pH {x₀:Str}:∀ {names:List (Str×NameKind)}(h:Heap),(names.filter fun y=>y.2 == NameKind.cell)=[(x₀,.cell)]->pushCells h names=h.push { cls:= .type "cell",data:= .cell none }
 |[],_,h=>by cases h
 |(y,k) :: r,g,h=>by
  unfold pushCells
  by_cases c:(k == NameKind.cell)=true
  ·rw [cy (p:=fun y:Str×NameKind=>y.2 == NameKind.cell) c] at h;injection h with h1 h2
   rw [bj c];have:∀ {r:List (Str×NameKind)}(g:Heap),(r.filter fun y=>y.2 == NameKind.cell)=[]->pushCells g r=g:=by
    intro r
    induction r with
    |nil=>intro g _;rfl
    |cons p r ih =>
     obtain ⟨y,k⟩:=p;intro g e;unfold pushCells
     by_cases c:(k == NameKind.cell)=true
     ·rw [cy (p:=fun y:Str×NameKind=>y.2 == NameKind.cell) c] at e;cases e
     ·rw [bz (p:=fun y:Str×NameKind=>y.2 == NameKind.cell) c] at e;rw [ar c];exact ih g e
   exact this _ h2
  ·rw [bz (p:=fun y:Str×NameKind=>y.2 == NameKind.cell) c] at h;rw [ar c];exact pH g h
theorem zM {M:Model}{A:Around}{E:Value->Shared->Prop}{s:Shared}{scope:Scope}{globals:Addr}{cl:List (Str×Addr)}{qual:Str}{func:Option Addr}{code:Value}{out:Env}{builtins:Addr}{x₀:Str}{Q:Env->Shared->Prop}
  (hc:(scope.names.filter fun y=>y.2 == NameKind.cell)=[(x₀,.cell)])
  (q:∀ h',h'=(s.heap.push { cls:= .type "dict",data:= .dict #[] }).push { cls:= .type "cell",data:= .cell none }->Q (newEnv scope s.heap.objs.size globals ((x₀,s.heap.objs.size+1) :: cl) qual func code (some out) builtins) { s with heap:=h' }) :
  wpAny M A (newFunctionEnv scope globals cl [] qual func code (some out) builtins) Q E s:=by
 simp only [newFunctionEnv,Option.isSome_some,if_true];refine aa (wpAny_alloc (aa (wpAny_layCells _ (fun name kind cells=>by cases hkc:kind == NameKind.cell <;> simp [hkc]) _ _ _ _ ?_)));rw [nA _ _ hc,pH _ hc]
 dsimp only
 rw [iu,ny];exact aa (am (am (q _ rfl)))
def nP (N:List Str) (sc scope:Scope) (N':List Str) (ix:List (Option Nat)) (x₀:Str):Bool :=
 ix.length == N'.length && (ix.zip N').all (fun p=>match p.1 with | none=>true | some j=>N[j]? == some p.2 && scope.names.lookup p.2 == some NameKind.free) &&
 scope.names.all (fun y=>(y.2 != NameKind.free || sc.names.lookup y.1 == some NameKind.cell || sc.names.lookup y.1 == some NameKind.free) && (y.2 != NameKind.local || scope.names.lookup y.1 == some NameKind.local) && (y.2 != NameKind.free || y.1 != x₀)) &&
 scope.kind == ScopeKind.function && (scope.names.filter fun y=>y.2 == NameKind.cell) == [(x₀,NameKind.cell)]
structure cO (N:List Str) (sc scope:Scope) (N':List Str) (ix:List (Option Nat)) (x₀:Str):Prop where
 len:ix.length=N'.length
 at_:∀ (i j:Nat) (x:Str),ix[i]?=some (some j)->N'[i]?=some x->N[j]?=some x/\scope.names.lookup x=some .free
 free:∀ y∈scope.names,y.2= .free->sc.names.lookup y.1=some .cell\/sc.names.lookup y.1=some .free
 loc:∀ y∈scope.names,y.2= .local->scope.names.lookup y.1=some .local
 kind:scope.kind= .function
 cells:(scope.names.filter fun y=>y.2 == NameKind.cell)=[(x₀,.cell)]
 nf:∀ y∈scope.names,y.2= .free->y.1≠x₀
theorem cO.of {N:List Str}{sc scope:Scope}{N':List Str}{ix:List (Option Nat)}{x₀:Str}(h:nP N sc scope N' ix x₀=true):cO N sc scope N' ix x₀:=by
 unfold nP at h;simp only [Bool.and_eq_true,beq_iff_eq,List.all_eq_true] at h;obtain ⟨⟨⟨⟨h1,h2⟩,h3⟩,h4⟩,h5⟩:=h;refine ⟨h1,fun i j x a b=>?_,fun y hy e=>?_,fun y hy e=>?_,h4,h5,fun y hy e=>?_⟩
 ·have hm:(some j,x)∈ix.zip N':=ay (i:=i) (by rw [kq];exact ⟨a,b⟩);have q:=h2 _ hm;simp only [Bool.and_eq_true,beq_iff_eq] at q;exact q
 ·have q:=(h3 y hy).1.1;rw [e] at q
  simpa using q
 ·have q:=(h3 y hy).1.2;rw [e] at q
  simpa using q
 ·have q:=(h3 y hy).2;rw [e] at q
  simpa using q
theorem cO.one {N:List Str}{sc scope:Scope}{N':List Str}{ix:List (Option Nat)}{x₀ x:Str}(S:cO N sc scope N' ix x₀) (h:(x,NameKind.cell)∈scope.names):x=x₀:=by
 have:(x,NameKind.cell)∈scope.names.filter fun y=>y.2 == NameKind.cell:=de.mpr ⟨h,rfl⟩
 rw [S.cells] at this;exact ee Prod.fst (cq.mp this)
theorem kB {env:Env}{x:Str}{names:List (Str×NameKind)}{v:NameKind}(hv:v= .cell\/v= .free) (h:(names.map fun (n,k)=>if (k == NameKind.free && env.scope.kind == .function && env.kindOf n == some .cell) then (n,NameKind.cell) else (n,k)).lookup x=some v):(x,NameKind.free)∈names\/(x,NameKind.cell)∈names:=by
 obtain ⟨⟨n,k⟩,hm,e⟩:=fk.mp (du h)
 dsimp only at e
 split at e
 ·rename_i c
  simp only [Bool.and_eq_true,beq_iff_eq] at c;have e1:n=x:=ee Prod.fst e;rw [c.1.1,e1] at hm;exact .inl hm
 ·have e1:=ee Prod.fst e;have e2:=ee Prod.snd e
  dsimp only at e1 e2
  rw [e1,e2] at hm;rcases hv with z | z
  ·rw [z] at hm;exact .inr hm
  ·rw [z] at hm;exact .inl hm
theorem iP {env:Env}{x:Str}:∀ {names:List (Str×NameKind)},names.lookup x=some .free ->
  (names.map fun (n,k)=>if (k == NameKind.free && env.scope.kind == .function && env.kindOf n == some .cell) then (n,NameKind.cell) else (n,k)).lookup x=some .cell \/
  (names.map fun (n,k)=>if (k == NameKind.free && env.scope.kind == .function && env.kindOf n == some .cell) then (n,NameKind.cell) else (n,k)).lookup x=some .free
 |[],h=>by cases h
 |(n,k) :: r,h=>by
  simp only [List.map_cons];rw [ib] at h
  by_cases cc:(k == NameKind.free && env.scope.kind == .function && env.kindOf n == some .cell)=true
  ·rw [bj cc]
   cases hx:x == n with
   |true=>left;simp only [List.lookup_cons,hx]
   |false=>rw [hx] at h;simp only [List.lookup_cons,hx];exact @iP env x r h
  ·rw [ar cc]
   cases hx:x == n with
   |true=>rw [hx] at h;right;simp only [List.lookup_cons,hx];exact h
   |false=>rw [hx] at h;simp only [List.lookup_cons,hx];exact @iP env x r h
def bK (X:Cx) (N':List Str) (scope:Scope) (x₀:Str) (C:Addr) (s₂:Shared) (H₂:Hp) (fp:List Addr):Cx where
 prog:=X.prog
 w:=X.w
 K:=X.K
 mg:=X.mg
 base:=X.base
 A:=X.A
 N:=N'
 s₀:=s₂
 H₀:=H₂
 env:=compEnvC scope ((x₀,C+1) :: gC X.env scope.names) C X.env
 outer:=X.stack
 stack:=X.stack
 ex:=fp
 fn:=fun x=>x == x₀
 calm:=X.calm
 pn:=[]
 xe:=fun _ _=>False
section
variable {X:Cx}{N':List Str}{ix:List (Option Nat)}{scope:Scope}{x₀:Str}{pins:List (Addr×Obj)}{σ: St}{H₂:Hp}{s₂:Shared}{fp:List Addr}{C:Addr}
theorem cO.get (S:cO X.N X.env.scope scope N' ix x₀) (I:aL X pins σ H₂ s₂) {x:Str}{c:Addr}(h:((x₀,C+1) :: gC X.env scope.names:List (Str×Addr)).lookup x=some c):(x=x₀/\c=C+1)\/X.env.cells.lookup x=some c:=by
 rw [ib] at h
 cases hx:x == x₀ with
 |true =>
  rw [hx] at h;exact .inl ⟨by simpa using hx,(ci h).symm⟩
 |false =>
  rw [hx] at h;rcases qP scope.names [] (fun y hy e=>I.ok.has y.1 (S.free y hy e)) h with q | q
  ·exact absurd q (by simp)
  ·exact .inr q
theorem cO.old (I:aL X pins σ H₂ s₂) {x:Str}{c:Addr}(h:X.env.cells.lookup x=some c):c < s₂.heap.objs.size:=by
 obtain ⟨v,z⟩:=I.cell x c h;exact z.lt
theorem rQ (S:cO X.N X.env.scope scope N' ix x₀) (I:aL X pins σ H₂ s₂) (hf:∀ b∈fp,gB X pins H₂ b) (hC:s₂.heap.objs.size<=C) (hfC:∀ b∈fp,b < s₂.heap.objs.size):(bK X N' scope x₀ C s₂ H₂ fp).Ok where
 mod:=I.ok.mod
 kind:=S.kind
 glob:=I.ok.glob
 blt:=I.ok.blt
 above:=hC
 inj:=fun x y c a b=>by
  rcases S.get I a with ⟨e1,z1⟩ | z1 <;> rcases S.get I b with ⟨e2,z2⟩ | z2
  ·rw [e1,e2]
  ·exact absurd (cO.old I z2) (by rw [z1];exact jo.mpr (gv hC))
  ·exact absurd (cO.old I z1) (by rw [z2];exact jo.mpr (gv hC))
  ·exact I.ok.inj x y c z1 z2
 has:=fun x h=>by
  have key:(x,NameKind.free)∈scope.names\/(x,NameKind.cell)∈scope.names:=by
   rcases h with h | h
   ·exact kB (.inl rfl) h
   ·exact kB (.inr rfl) h
  show ∃ c,((x₀,C+1) :: gC X.env scope.names:List (Str×Addr)).lookup x=some c;rw [ib]
  cases hx:x == x₀ with
  |true=>exact ⟨_,rfl⟩
  |false =>
   rcases key with q | q
   ·exact lL scope.names [] (.inl q)
   ·rw [S.one q] at hx;simp at hx
 cab:=fun x c h e=>by
  rcases S.get I e with ⟨_,z⟩ | z
  ·rw [z];exact gv hC
  ·have hx:x=x₀:=by simpa [bK] using h
   have e:((x₀,C+1) :: gC X.env scope.names:List (Str×Addr)).lookup x=some c:=e;rw [hx,ib,beq_self_eq_true] at e;rw [<- ci e];exact gv hC
 hd:=I.ok.hd
 frames:=I.ok.frames
 stk:= .inl rfl
 exf:=fun b hb=>⟨av (ai (hfC b hb) hC),fun x c e=>by
  rcases S.get I e with ⟨_,z⟩ | z
  ·rw [z];exact fu (ja (ai (hfC b hb) hC))
  ·exact (hf b hb).2.2.2.2.1 x c z⟩
 bs:=I.bs
 bsz:=aj I.ok.bsz I.sz
 noex:=fun b o e hb=>by
  rcases (hf b hb).2.2.2.1 with z | z
  ·exact I.ok.noex b o e z
  ·exact absurd (ai (al e) (aj I.ok.bsz z)) (di _)
 exfs:=fun b hb hm=>by
  rcases bv.mp (I.stkSub b hm) with z | z
  ·exact (hf b hb).2.1 z
  ·exact (hf b hb).2.2.1 z
 funs:=I.stack
 frf:=I.stkFree
theorem oV (S:cO X.N X.env.scope scope N' ix x₀) (I:aL X pins σ H₂ s₂) (hf:∀ b∈fp,gB X pins H₂ b) (hfC:∀ b∈fp,b < s₂.heap.objs.size) {D:Addr}{h₁:Heap}{tk:Nat}{m:Str->Option Value}{ob:Obj}
  (hC:s₂.heap.objs.size<=C) (hD:s₂.heap.objs.size<=D) (hD1:D≠C+1) (hDC:D≠C) (old:∀ b o,s₂.heap.get? b=some o->h₁.get? b=some o) (hn:h₁.Ns C m) (hcl:h₁.IsCell (C+1) none) (hob:h₁.get? D=some ob) (hd:∀ v,ob.data≠ .cell v) :
  aL (bK X N' scope x₀ C s₂ H₂ fp) [(D,ob)] (jO ix σ) H₂ { s₂ with heap:=h₁,toks:=tk }:=by
 have fr:∀ a,s₂.heap.objs.size<=a->H₂ a=none:=fun a ha=>I.hok.fresh ha
 refine ⟨rQ S I hf hC hfC,rfl,I.bare,Un.kept old,⟨m,hn,fun i x v e1 e2 e3=>?_⟩,fun x c e=>?_,fr C hC,fun x c e=>?_,fun p hp=>?_,I.hok.kept old,?_⟩
 ·obtain ⟨j,q1,q2⟩:=qA e2;obtain ⟨n1,n2⟩:=S.at_ i j x q1 e1;have hm:(x,NameKind.free)∈scope.names:=du n2;have hv:Vis X.env.scope x:=by
   rcases S.free _ hm rfl with z | z
   ·exact .inr (.inl z)
   ·exact .inr (.inr z)
  obtain ⟨m0,_,hl⟩:=I.loc;obtain ⟨u,r,l⟩:=hl j x v n1 q2 hv;refine ⟨u,r,?_⟩;have hne:¬ X.env.kindOf x=some .local:=fun z=>by
   have z:X.env.scope.names.lookup x=some .local:=z;rcases S.free _ hm rfl with y | y
   ·rw [y] at z;cases z
   ·rw [y] at z;cases z
  rcases l with ⟨k,_⟩ | ⟨k,c,e,z⟩
  ·exact absurd k hne
  ·obtain ⟨c',hc'⟩:=lL (env:=X.env) (x:=x) scope.names [] (.inl hm);have hc2:((x₀,C+1) :: gC X.env scope.names:List (Str×Addr)).lookup x=some c':=by
    have:(x == x₀)=false:=by simpa using S.nf _ hm rfl
    rw [ib,this];exact hc'
   rcases S.get I hc2 with ⟨z1,_⟩ | hc''
   ·exact absurd z1 (S.nf _ hm rfl)
   rw [e] at hc''
   cases hc''
   obtain ⟨oc,ho,hod⟩:=z;exact .inr ⟨iP n2,c,hc2,oc,old _ _ ho,hod⟩
 ·rcases S.get I e with ⟨_,z⟩ | z
  ·rw [z];exact ⟨_,hcl⟩
  ·obtain ⟨v,o,ho,hod⟩:=I.cell x c z;exact ⟨v,o,old _ _ ho,hod⟩
 ·rcases S.get I e with ⟨_,z⟩ | z
  ·rw [z];exact fr _ (gv hC)
  ·exact I.freeC x c z
 ·have hp:p∈[(D,ob)]:=hp;have e:p=(D,ob):=by simpa using hp
  subst e;refine ⟨hob,fr D hD,hDC,fun hb=>?_,hd⟩;have hb:D∈fE X.stack:=hb;rcases bv.mp (I.stkSub D hb) with z | z
  ·exact absurd I.lt (by rw [<- z];exact jo.mpr hD)
  ·exact I.nofs hD z
 ·show (jO ix σ).length=N'.length;unfold jO;rw [ac,S.len]
theorem pV (I:aL X pins σ H₂ s₂) (hf:∀ b∈fp,gB X pins H₂ b) {pins':List (Addr×Obj)}{σ':St}{H':Hp}{s':Shared}{D:Addr}{ys:List V}{its:List Value}(hC:s₂.heap.objs.size<=C) (hD:s₂.heap.objs.size<=D)
  (J:aL (bK X N' scope x₀ C s₂ H₂ fp) pins' σ' H' s') (hn:H' D=none) (hl:s'.heap.PlainList D its.toArray) (r:aV ys its) (hz:ys.length<=sizeLine):aL X pins σ (aN H' D (.lst ys)) s':=by
 have sb:Un (fE X.stack) fp H₂ H' s₂.heap s'.heap:=J.base;have nD:∀ b u,H' b=some u->b≠D:=fun b u e=>aK e hn
 refine I.call' (ch:=fp) J.os ⟨sb.keep,sb.slot,fun b o e n hx=>?_,sb.there,fun b xs e=>?_,fun b o u e=>?_,fun b ps e=>?_⟩ (fun b u e=>?_) J.bare (fun b hb=>?_)
 ·rw [aH (av (ai (al e) hD))];exact sb.free b o e n hx
 ·have q:=sb.tups b xs e;rw [aH (nD b _ q)];exact q
 ·have q:=sb.frzs b o u e;rw [aH (nD b _ q)];exact q
 ·obtain ⟨more,q⟩:=sb.tbls b ps e;exact ⟨more,by rw [aH (nD b _ q)];exact q⟩
 ·by_cases hb:b=D
  ·subst hb;rw [aD] at e
   cases e
   obtain ⟨n,hg⟩:=hl;exact ⟨hz,its,n,r,hg⟩
  ·rw [aH hb] at e;exact (J.hok b u e).stay (fun c v _ q=>q) (fun c q=>by rw [aH (nD c _ q)];exact q) fun c xs q=>by rw [aH (nD c _ q)];exact q
 ·obtain ⟨_,f1,_,f3,f4,f5⟩:=hf b hb;exact ⟨f3,f1,f4,f5⟩
end
section
variable {X:Cx}{tg elt iter:Expr}{ifs:List Expr}{scope:Scope}{pos:Pos}{x₀:Str}{N':List Str}{ix:List (Option Nat)}{wi:TI}{g:TG}{tc:TT}{te:TE}
theorem rG {pins:List (Addr×Obj)}{s₂:Shared}{σ: St}{H₂:Hp}{it:Addr}{fp:List Addr}{tn:Nat->Heap->Prop}{J:It}{Kf:List V->Hp->Prop}{RR:Value->Addr->Result->Shared->Prop}{E:Value->Shared->Prop}
  (S:cO X.N X.env.scope scope N' ix x₀) (hc:X.calm=true)
  (hg:∀ C s₂ H₂ fp,PG (bK X N' scope x₀ C s₂ H₂ fp) tg g) (ht:∀ C s₂ H₂ fp,qQ (bK X N' scope x₀ C s₂ H₂ fp) ifs tc) (he:∀ C s₂ H₂ fp,PE (bK X N' scope x₀ C s₂ H₂ fp) elt te)
  (I2:aL X pins σ H₂ s₂) (T:rB X.prog X.w X.K tg J fp it tn) (st2:tn 0 s₂.heap) (f2:∀ b∈fp,gB X pins H₂ b) (w:lI J g tc te Kf (jO ix σ) H₂)
  (hR:∀ acc C s',sF X pins σ Kf acc C s'->RR acc C (.ok .next) s') :
  wpAny (model X.prog X.w) X.A (newList []) (fun acc s₃=>wpAny (model X.prog X.w) X.A (newFunctionEnv scope X.env.globals (gC X.env scope.names) [] X.env.qual none .none (some X.env)) (fun cenv s₄ =>
   codeAny (model X.prog X.w) X.A (.compStart (.ListComp elt [⟨tg,iter,ifs,0⟩] scope pos) 0 (.ref it) acc { cenv with scope:=relabel scope X.env }) (RR acc cenv.locals) s₄) E s₃) E s₂:=by
 obtain ⟨W,⟨m0,w0⟩,turn⟩:=w;refine gt (zM S.cells fun h₁ eh=>?_)
 dsimp only at eh ⊢
 generalize eH:s₂.heap.push { cls:= .type "list",dict:=none,data:= .seq ([]:List Value).toArray }=G2 at eh ⊢;have sizeC:G2.objs.size=s₂.heap.objs.size+1:=by rw [<- eH,iu]
 have neDC:s₂.heap.objs.size≠G2.objs.size:=by rw [sizeC];exact av (dh _)
 have leC:s₂.heap.objs.size<=G2.objs.size:=by rw [sizeC];exact jf _
 have keepG:∀ b o,G2.get? b=some o->h₁.get? b=some o:=fun b o e=>by rw [eh];exact af _ (af _ e)
 have keepOld:∀ b o,s₂.heap.get? b=some o->h₁.get? b=some o:=fun b o e=>keepG b o (eH ▸ af _ e)
 have accNew:h₁.PlainList s₂.heap.objs.size #[]:=⟨_,keepG _ _ (eH ▸ bn _ rfl)⟩
 have nsN:h₁.Ns G2.objs.size (fun _=>none):=by rw [eh];exact (Heap.Ns.new G2 (.type "dict")).keeps fun b o e=>af _ e
 have celN:h₁.IsCell (G2.objs.size+1) none:=by
  rw [eh,show G2.objs.size+1=(G2.push { cls:= .type "dict",data:= .dict #[] }).objs.size from (iu ..).symm];exact ⟨_,bn _ rfl,rfl⟩
 clear eh;generalize eC:G2.objs.size=C at *;generalize eD:s₂.heap.objs.size=D at *;have hfC:∀ b∈fp,b < s₂.heap.objs.size:=fun b hb=>by
  obtain ⟨o,e,_⟩:=T.obj 0 _ st2 b hb;exact al e
 have hfD:∀ b∈fp,b≠D:=fun b hb=>by have:=hfC b hb;rw [eD] at this;exact av this
 have hfC':∀ b∈fp,b≠C:=fun b hb=>by have:=hfC b hb;rw [eD] at this;exact av (ai this leC)
 have geD:s₂.heap.objs.size<=D:=by rw [eD];exact ae _
 have geC:s₂.heap.objs.size<=C:=by rw [eD];exact leC
 obtain ⟨nn,hob⟩:=id accNew;have J1:aL (bK X N' scope x₀ C s₂ H₂ fp) [] (jO ix σ) H₂ { s₂ with heap:=h₁,toks:=s₂.toks } :=
  (oV S I2 f2 hfC geC geD (av (qw leC)) neDC keepOld nsN celN hob (fun v z=>by cases z)).pins_of (fun p hp=>absurd hp (by simp))
 have nfsD:D∉fE X.stack:=fun hb=>by
  rcases bv.mp (I2.stkSub D hb) with z | z
  ·exact absurd I2.lt (by rw [<- z];exact jo.mpr geD)
  ·exact I2.nofs geD z
 have cOf:∀ x c,(((x₀,C+1) :: gC X.env scope.names:List (Str×Addr))).lookup x=some c->c≠D/\c≠C:=fun x c e=>by
  rcases S.get I2 e with ⟨_,z⟩ | z
  ·rw [z];exact ⟨fu (qw leC),fu (dh _)⟩
  obtain ⟨v,z⟩:=I2.cell x c z;have:=z.lt;rw [eD] at this;exact ⟨av this,av (ai this leC)⟩
 have fpk:∀ {pl:List (Addr×Obj)}{H':Hp},(∀ b∈fp,H' b=none)->(∀ p∈pl,p.1∉fp)->∀ b∈fp,gB (bK X N' scope x₀ C s₂ H₂ fp) pl H' b:=fun {pl H'} hn hp b hb =>
  ⟨hn b hb,hfC' b hb,fun z=>by
    rcases bv.mp (I2.stkSub b z) with q | q
    ·exact (f2 b hb).2.1 q
    ·exact (f2 b hb).2.2.1 q,
   .inl hb,fun x c e=>(by
    rcases S.get I2 e with ⟨_,z⟩ | z
    ·rw [z];exact fu (ja (ai (hfC b hb) geC))
    ·exact (f2 b hb).2.2.2.2.1 x c z),fun p hp' z=>hp p (by simpa [bK] using hp') (by rw [z];exact hb)⟩
 have dpk:∀ {H':Hp},H' D=none->∀ b∈[D],gB (bK X N' scope x₀ C s₂ H₂ fp) [] H' b:=fun {H'} hn b hb=>by
  have e:b=D:=by simpa using hb
  subst e;exact ⟨hn,neDC,nfsD,.inr geD,fun x c e=>(cOf x c e).1,fun p hp=>absurd hp (by simp [bK])⟩
 have loop:codeAny (model X.prog X.w) X.A (.compLoop (.ListComp elt [⟨tg,iter,ifs,0⟩] scope pos) 0 (.ref it) (.ref D) (compEnvC scope ((x₀,C+1) :: gC X.env scope.names) C X.env)) (RR (.ref D) C) { s₂ with heap:=h₁,toks:=s₂.toks }:=by
  refine mM (fun n s'=>∃ i ys σ' H' its,aL (bK X N' scope x₀ C s₂ H₂ fp) [] σ' H' s'/\tn i s'.heap/\(∀ b∈fp,H' b=none)/\H' D=none/\s'.heap.PlainList D its.toArray/\aV ys its/\W i n ys σ' H') ?_ m0
   ⟨0,[],_,H₂,[],J1,T.keep _ _ _ st2 fun b _ o e=>keepOld b o e,fun b hb=>(f2 b hb).1,I2.hok.fresh geD,accNew,.nil,w0⟩
  rintro n s3 ⟨i,ys,σ3,H3,its,I3,st3,fr3,dn3,pl3,rv3,w3⟩;obtain ⟨nn3,hob3⟩:=id pl3;have oD:∀ b∈[D],∃ o,s3.heap.get? b=some o/\∀ v,o.data≠ .cell v:=fun b hb=>by
   have e:b=D:=by simpa using hb
   subst e;exact ⟨_,hob3,fun v z=>by cases z⟩
  have I3':aL (bK X N' scope x₀ C s₂ H₂ fp) (cI [D] s3.heap) σ3 H3 s3:=by
   have:=I3.pinned (dpk dn3) oD
   simpa using this
  have pD:(D,({ cls:= .type "list",data:= .seq its.toArray nn3 }:Obj))∈cI [D] s3.heap:=cK (by simp) hob3;have npD:∀ p∈cI [D] s3.heap,p.1∉fp:=fun p hp z=>by
   have e:p.1=D:=by simpa using (jN hp).1
   exact hfD _ z e
  obtain ⟨hys,tt⟩:=turn i n ys σ3 H3 w3;rcases tt with ⟨stop,qn⟩ | ⟨go,N,hN,step⟩
  ·refine bi (T.done (bK X N' scope x₀ C s₂ H₂ fp) rfl rfl rfl hc i (cI [D] s3.heap) s3 σ3 H3 (fun _ _=>False) I3' (fpk fr3 npD) st3 stop) (fun r s4 ⟨hr,I4⟩=>?_) fun _ _ z=>z
   subst hr;have g4:=(I4.pin _ (bc _ pD)).1;refine hR _ _ _ ⟨D,H3,ys,rfl,dn3,pV I2 f2 geC geD I4 dn3 ⟨nn3,g4⟩ rv3 (cg hys),?_,?_,neDC,?_,?_,?_,?_,qn⟩
   ·obtain ⟨m,hm,_⟩:=I4.loc;exact ⟨m,hm⟩
   ·exact I4.free
   ·exact fu (ai I2.lt geC)
   ·exact aj I2.sz geC
   ·intro x c e z;obtain ⟨v,q⟩:=I2.cell x c e;exact absurd (ai q.lt geC) (by rw [z];exact di _)
   ·intro p hp z;exact absurd (ai (al (I2.pin p hp).1) geC) (by rw [z];exact di _)
  ·refine bi (T.item (bK X N' scope x₀ C s₂ H₂ fp) rfl rfl rfl hc i (cI [D] s3.heap) s3 σ3 H3 (fun _ _=>False) I3' (fpk fr3 npD) st3 go) (fun r s4 ⟨u,hr,h4⟩=>?_) fun _ _ z=>z
   subst hr;refine bi h4 (?_) fun _ _ z=>z;rintro _ s5 ⟨x,H5,I5,r5,y5,st5,fr5⟩
   have I5':=I5.pinned (fpk fr5 npD) (T.obj _ _ st5);refine bi (hg C s₂ H₂ fp _ s5 σ3 H5 x u _ I5' r5 (step x H5 y5)) (?_) fun _ _ z=>z;rintro _ s6 ⟨σ6,H6,I6,q6⟩
   refine bi (ht C s₂ H₂ fp _ s6 σ6 H6 _ I6 q6) (?_) fun _ _ z=>z;rintro b s7 ⟨H7,I7,q7⟩
   have fin:∀ {s8:Shared}{σ8:St}{H8:Hp},aL (bK X N' scope x₀ C s₂ H₂ fp) (cI [D] s3.heap++cI fp s5.heap) σ8 H8 s8->s8.heap.get? D=some { cls:= .type "list",data:= .seq its.toArray nn3 }/\H8 D=none /\
     tn (i+1) s8.heap/\∀ b∈fp,H8 b=none:=fun {s8 σ8 H8} I8=>by
    have q:=I8.pin _ (bc _ (er _ pD));refine ⟨q.1,q.2.1,T.keep _ _ _ st5 fun b hb o e=>(I8.pin (b,o) (bc _ (bc _ (cK hb e)))).1,fun b hb=>?_⟩;obtain ⟨o,e,d⟩:=T.obj _ _ st5 b hb;exact (I8.pin (b,o) (bc _ (bc _ (cK hb e)))).2.1
   cases b with
   |false =>
    obtain ⟨m',hm,w7⟩:=hN _ _ _ q7;obtain ⟨a1,a2,a3,a4⟩:=fin I7;exact ⟨m',hm,i+1,ys,σ6,H7,its,I7.pins_of fun p hp=>absurd hp (by simp),a3,a4,a2,⟨nn3,a1⟩,rv3,w7⟩
   |true =>
    refine bi (he C s₂ H₂ fp _ s7 σ6 H7 _ I7 q7) (?_) fun _ _ z=>z;rintro v s8 ⟨y,H8,I8,r8,n8⟩
    obtain ⟨m',hm,w8⟩:=hN _ _ _ n8;obtain ⟨a1,a2,a3,a4⟩:=fin I8;have hsz:its.toArray.size<=sizeLine:=by
     have:=rv3.length;rw [au];omega
    refine md (hsz:=hsz) ⟨nn3,a1⟩ fun h9 hl9 hs9=>?_
    have I9:aL (bK X N' scope x₀ C s₂ H₂ fp) [] σ6 H8 { s8 with heap:=h9 } :=
     (I8.pins_of (pins':=[]) fun p hp=>absurd hp (by simp)).turned (t':=s8.toks) (fun b o hb e=>(hs9.2 b hb).trans e) a2 neDC (.inr geD) (fun x c e=>(cOf x c e).1) fun p hp=>absurd hp (by simp [bK])
    refine ⟨m',hm,i+1,ys++[y],σ6,H8,its++[v],I9,T.keep _ _ _ a3 fun b hb o e=>(hs9.2 b (hfD b hb)).trans e,a4,a2,?_,rv3.append (.cons r8 .nil),w8⟩;have e:(its++[v]).toArray=its.toArray.push v:=by simp
    rw [e];exact hl9
 exact nc loop (T.self _ 0 _ _ _ (T.keep _ _ _ st2 fun b _ o e=>keepOld b o e) loop)
theorem vG (x₀:Str) (N':List Str) (ix:List (Option Nat)) (hi:PI X tg iter wi) (hg:∀ C s₂ H₂ fp,PG (bK X N' scope x₀ C s₂ H₂ fp) tg g) (ht:∀ C s₂ H₂ fp,qQ (bK X N' scope x₀ C s₂ H₂ fp) ifs tc)
  (he:∀ C s₂ H₂ fp,PE (bK X N' scope x₀ C s₂ H₂ fp) elt te) (S:autoParam (nP X.N X.env.scope scope N' ix x₀=true) Rq0._auto_1) (hc:autoParam (X.calm=true) Rq0._auto_1) (hs:autoParam (∀ x,foldedSetIterable iter X.env x=pure x) Rq3._auto_1) :
  PE X (.ListComp elt [⟨tg,iter,ifs,0⟩] scope pos) (wT wi ix g tc te):=by
 intro pins s σ H Q I h;have S:=cO.of S;rw [eval_ListComp];refine iq (use:=none) (cl:=gC X.env scope.names) rfl hs (iQ fun y hy e=>I.ok.has y.1 (S.free y hy e)) S.kind S.loc (bZ (hi pins s σ H _ I h) fun xv s₁ h₁=>bZ h₁ fun itv s₂ h₂=>?_);obtain ⟨it,fp,tn,J,H₂,rfl,I2,T,st2,f2,w⟩:=h₂;refine rG (RR:=fun acc C=>compPost (model X.prog X.w) X.A X.xe none (EP X pins σ Q) acc C) S hc hg ht he I2 T st2 f2 w fun acc C s' ce=>?_
 obtain ⟨D,H',ys,rfl,dn,J',hm,cn,dc,c1,c2,c3,c4,kf⟩:=ce;obtain ⟨m,hm⟩:=hm;refine ⟨m,hm,fun h' hs'=>⟨.ref D,_,J'.turned (t':=s'.toks) (fun b o hb e=>(hs'.2 b hb).trans e) (by rw [aH dc.symm];exact cn) c1 (.inr c2) c3 c4,rfl,kf D dn⟩⟩
end
theorem aV9 {X:Cx}{tg:Expr}(K:W.Frag) {l:Expr}{tl:TE}(hl:PE X l tl) (hK:autoParam (X.K=K) Rq0._auto_1):PI X tg l (aB7 K tl):=by subst hK;exact dE hl
end L2
namespace Mine
open PySem L2
def inC (s:Stmt) (i:Nat):Stmt:=match s with
 |.ClassDef _ _ _ b _ _ _ _ _ _ _=>b.getD i (.Pass ⟨0,0,0,0⟩)
 |_=> .Pass ⟨0,0,0,0⟩
def top (i:Nat):Stmt:=PySem.Challenge.pw_pairedthrows_k41_tops_and_crowds.main.body.getD i (.Pass ⟨0,0,0,0⟩)
abbrev wZ:Stmt:=inC (top 2) 0
abbrev aT0:Stmt:=top 5
abbrev vJ:Stmt:=top 6
abbrev aC0:Stmt:=top 7
abbrev aO0:Stmt:=top 9
abbrev aP5:Stmt:=top 10
abbrev aU7:Stmt:=top 11
abbrev aO8:Stmt:=top 12
abbrev aU8:Stmt:=top 15
abbrev aR4:Stmt:=top 16
abbrev aS4:Stmt:=top 20
abbrev aR2:Stmt:=top 21
abbrev aT6:Stmt:=top 22
abbrev aV0:Stmt:=top 62
abbrev aQ8:Stmt:=top 65
abbrev aU6:Stmt:=top 68
abbrev aR9:Stmt:=top 70
abbrev aB5:Stmt:=top 71
abbrev aQ4:Stmt:=top 72
abbrev aM9:Stmt:=top 73
abbrev aM6:Stmt:=top 74
abbrev aS0:Stmt:=top 75
abbrev aR0:Stmt:=top 76
abbrev aT1:Stmt:=top 77
abbrev aQ5:Stmt:=top 78
abbrev aV2:Stmt:=top 79
abbrev aQ0:Stmt:=top 80
abbrev aP0:Stmt:=top 81
abbrev aP2:Stmt:=top 82
abbrev aM4:Stmt:=top 83
abbrev aP6:Stmt:=top 84
abbrev aN5:Stmt:=top 85
abbrev aU9:Stmt:=top 86
abbrev aR8:Stmt:=top 87
abbrev aS7:Stmt:=top 88
abbrev aR6:Stmt:=top 89
abbrev aU1:Stmt:=top 91
abbrev aO6:Stmt:=top 92
abbrev uY:Stmt:=top 93
section
variable {P:Program}{w:World}{K:W.Frag}{mg:Str->Option Value}{base:Heap}
theorem aK4  : eU P w K mg base "as_steps" "as_steps" aP5 1 ["rows"] spAsS:=by
 refine gZ ["rows"] fun H Q nd hr h=>?_
 obtain ⟨p,rs,rfl,hp,hl,k⟩:=h;refine ⟨_,(aE (aO (cJ ["row"] [none] (fB (pv 0)) (fun _ _ _ _=>(eX 0)) (fun _ _ _ _=>dL) (fun _ _ _ _=>(aR (aA aG (aM (pv 0)))))))),?_⟩;refine ⟨_,rfl,p,rfl,⟨_,bA.of hp⟩,lP (K:=K) (a:=p) (xs:=aQ rs) (fun i zs σ G=>aY H G/\(∃ v,σ=[v])/\dA (gF G) zs ((rs.take i).map fun r=>(("row": Str),r)))
  (by rw [bN];exact fW (by omega)) ⟨aY.refl _,⟨_,rfl⟩,trivial⟩ (by rintro i zs σ G ⟨_,_,e⟩;rw [e.length,ac,bq];omega) (by rintro i zs σ G _ ⟨e,_⟩;exact bA.of (e _ _ hp)) ?_ ?_⟩
 ·rintro i v zs σ G hv ⟨s1,⟨v',rfl⟩,tw⟩;obtain ⟨r,rfl,hr'⟩:=jE hv;refine ⟨_,rfl,dW,fun t ht=>⟨s1.trans (aB ht _),⟨_,rfl⟩,?_⟩⟩;rw [bE hr',az];exact dA.append (tw.mono fun _ _ z=>gF.ts (.of (aB ht _)) z) ⟨⟨t,rfl,aD⟩,trivial⟩
 ·rintro zs σ G ⟨s1,_,tw⟩ l hl';rw [bN,br] at tw;exact k l zs _ (s1.trans (aB hl' _)) aD (tw.mono fun _ _ z=>gF.ts (.of (aB hl' _)) z)
theorem aG6 (C_AsS:Cl P w K mg base 1 spAsS "as_steps"):eU P w K mg base "inner_steps" "inner_steps" aU7 2 ["row"] spInner:=by
 refine gZ ["row"] fun H Q nd hr h=>?_
 obtain ⟨r,rfl,hr0,hc,k⟩:=h;refine ⟨_,(aF (bO (dF cP (cU aZ (pv 0) aC) aG) (aE (aO (aJ lE (aJ lE (aJ lE (bU C_AsS hr (aM (cU aZ (pv 0) aC))) (bQ (aM (aR (aA aG (aM (pv 0))))))) (bU C_AsS hr (aM (cU aZ (pv 0) aC)))) (bQ (aM (aR (aA aG (aM (pv 0))))))))) aX)
  (aF (bO (dF cP (cU aZ (pv 0) aC) aG) (aE (aO (aJ lE (bU C_AsS hr (aM (cU aZ (pv 0) aC))) (bQ (aM (aR (aA aG (aM (pv 0))))))))) aX)
  (aE (aO (bQ cA))))),?_⟩
 obtain ⟨us,hat⟩:=hr0.at;refine ⟨_,rfl,r.p,_,_,.str r.w,rfl,rfl,bA.of hat,yF _ _,rfl,_,rfl,?_⟩;have ln:=nG r.kids;have ck:=wK r;generalize hP:r.p=P
 cases r with
 |when p pa pb t a b =>
  obtain rfl:p=P:=hP;refine bP (ah rfl) ?_;have la:a.length+b.length<=4000:=by simp only [Rw.kids,List.length_append] at ln ck;omega
  obtain ⟨hp,_,ha,hb,ra,rb⟩:=id hr0;refine ⟨_,rfl,p,_,_,.ref pa,rfl,rfl,bA.of hp,rfl,pa,a,rfl,ha,by omega,fun r1 z1 H1 s1 h1 t1=>?_⟩;refine ⟨_,rfl,dW,fun t2 ht2=>⟨iY,fun l2 hl2=>?_⟩⟩;have s2:=(aB ht2 (.tup [.str "else",.ref p])).trans (aB hl2 (.lst [.ref t2]));have h2:aN (aN H1 t2 (.tup [.str "else",.ref p])) l2 (.lst [.ref t2]) l2=some (.lst [.ref t2]):=aD;have e2:gF (aN (aN H1 t2 (.tup [.str "else",.ref p])) l2 (.lst [.ref t2])) (.ref t2) (("else": Str),Rw.when p pa pb t a b):=⟨t2,rfl,(aB hl2 _) _ _ aD⟩
  generalize aN (aN H1 t2 (.tup [.str "else",.ref p])) l2 (.lst [.ref t2])=H2 at s2 h2 e2 ⊢;have l1:=t1.length;rw [ac] at l1;refine ⟨r1,l2,_,_,rfl,rfl,s2 _ _ h1,h2,cg (fW (by rw [l1];show a.length+1<=9000000;omega)),fun l3 hl3=>?_⟩;have s3:=s2.trans (aB hl3 (.lst (z1++[.ref t2])));have h3:aN H2 l3 (.lst (z1++[.ref t2])) l3=some (.lst (z1++[.ref t2])):=aD;have t3:dA (gF (aN H2 l3 (.lst (z1++[.ref t2])))) (z1++[.ref t2]) (a.map (fun r=>(("row": Str),r))++[(("else": Str),Rw.when p pa pb t a b)]):=dA.append (t1.mono fun _ _ z=>gF.ts (.of s3) z) ⟨e2.ts (.of (aB hl3 _)),trivial⟩;generalize aN H2 l3 (.lst (z1++[.ref t2]))=H3 at s3 h3 t3 ⊢;have g3:=s1.trans s3;refine ⟨_,rfl,p,_,_,.ref pb,rfl,rfl,bA.of (g3 _ _ hp),rfl,pb,b,rfl,g3 _ _ hb,by omega,fun r4 z4 H4 s4 h4 t4=>?_⟩;have l4:=t4.length;rw [ac] at l4;refine ⟨l3,r4,_,_,rfl,rfl,s4 _ _ h3,h4,cg (fW (by simp only [List.length_append,List.length_cons,List.length_nil,l1,l4];omega)),fun l5 hl5=>?_⟩
  have s5:=s4.trans (aB hl5 (.lst (z1++[.ref t2]++z4)));have h5:aN H4 l5 (.lst (z1++[.ref t2]++z4)) l5=some (.lst (z1++[.ref t2]++z4)):=aD;have t5:=dA.append (t3.mono fun _ _ z=>gF.ts (.of s5) z) (t4.mono fun _ _ z=>gF.ts (.of (aB hl5 (.lst (z1++[.ref t2]++z4)))) z);generalize aN H4 l5 (.lst (z1++[.ref t2]++z4))=H5 at s5 h5 t5 ⊢;refine ⟨_,rfl,dW,fun t6 ht6=>⟨iY,fun l6 hl6=>?_⟩⟩;have s6:=(aB ht6 (.tup [.str "end",.ref p])).trans (aB hl6 (.lst [.ref t6]));have h6:aN (aN H5 t6 (.tup [.str "end",.ref p])) l6 (.lst [.ref t6]) l6=some (.lst [.ref t6]):=aD;have e6:gF (aN (aN H5 t6 (.tup [.str "end",.ref p])) l6 (.lst [.ref t6])) (.ref t6) (("end": Str),Rw.when p pa pb t a b):=⟨t6,rfl,(aB hl6 _) _ _ aD⟩
  generalize aN (aN H5 t6 (.tup [.str "end",.ref p])) l6 (.lst [.ref t6])=H6 at s6 h6 e6 ⊢;refine ⟨l5,l6,_,_,rfl,rfl,s6 _ _ h5,h6,cg (fW (by simp only [List.length_append,List.length_cons,List.length_nil];omega)),fun l7 hl7=>?_⟩;refine k l7 _ _ (g3.trans (s5.trans (s6.trans (aB hl7 _)))) aD ?_;exact dA.append (t5.mono fun _ _ z=>gF.ts (.of (s6.trans (aB hl7 _))) z) ⟨e6.ts (.of (aB hl7 _)),trivial⟩
 |times p pb n b =>
  obtain rfl:p=P:=hP;refine bC (fun z=>wTW (ao z)) ?_;refine ⟨_,rfl,p,_,_,.str "times",rfl,rfl,bA.of hat,yF _ _,rfl,_,rfl,?_⟩;refine bP (ah rfl) ?_;have la:b.length<=4000:=by simp only [Rw.kids] at ln ck;omega
  obtain ⟨hp,hb,rb⟩:=id hr0;refine ⟨_,rfl,p,_,_,.ref pb,rfl,rfl,bA.of hp,rfl,pb,b,rfl,hb,by omega,fun r1 z1 H1 s1 h1 t1=>?_⟩;refine ⟨_,rfl,dW,fun t2 ht2=>⟨iY,fun l2 hl2=>?_⟩⟩;have s2:=(aB ht2 (.tup [.str "end",.ref p])).trans (aB hl2 (.lst [.ref t2]));have h2:aN (aN H1 t2 (.tup [.str "end",.ref p])) l2 (.lst [.ref t2]) l2=some (.lst [.ref t2]):=aD;have e2:gF (aN (aN H1 t2 (.tup [.str "end",.ref p])) l2 (.lst [.ref t2])) (.ref t2) (("end": Str),Rw.times p pb n b):=⟨t2,rfl,(aB hl2 _) _ _ aD⟩
  generalize aN (aN H1 t2 (.tup [.str "end",.ref p])) l2 (.lst [.ref t2])=H2 at s2 h2 e2 ⊢;have l1:=t1.length;rw [ac] at l1;refine ⟨r1,l2,_,_,rfl,rfl,s2 _ _ h1,h2,cg (fW (by rw [l1];show b.length+1<=9000000;omega)),fun l3 hl3=>?_⟩;refine k l3 _ _ (s1.trans (s2.trans (aB hl3 _))) aD ?_;exact dA.append (t1.mono fun _ _ z=>gF.ts (.of (s2.trans (aB hl3 _))) z) ⟨e2.ts (.of (aB hl3 _)),trivial⟩
 |thr p x T a3 wss =>
  obtain rfl:p=P:=hP;have hw:=aT9 T;refine bC (fun z=>aF2 hw (ao z)) ?_;refine ⟨_,rfl,p,_,_,.str T.wd,rfl,rfl,bA.of hat,yF _ _,rfl,_,rfl,?_⟩;refine bC (fun z=>aF1 hw (ao z)) ?_;exact ⟨bh _,fun l hl=>k l [] _ (aB hl _) aD trivial⟩
 |lt p x t =>
  obtain rfl:p=P:=hP;refine bC (fun z=>wLW (ao z)) ?_;refine ⟨_,rfl,p,_,_,.str "let",rfl,rfl,bA.of hat,yF _ _,rfl,_,rfl,?_⟩;refine bC (fun z=>wLT (ao z)) ?_;exact ⟨bh _,fun l hl=>k l [] _ (aB hl _) aD trivial⟩
 |tell p t =>
  obtain rfl:p=P:=hP;refine bC (fun z=>wEW (ao z)) ?_;refine ⟨_,rfl,p,_,_,.str "tell",rfl,rfl,bA.of hat,yF _ _,rfl,_,rfl,?_⟩;refine bC (fun z=>wET (ao z)) ?_;exact ⟨bh _,fun l hl=>k l [] _ (aB hl _) aD trivial⟩
theorem aE5 (C_AsS:Cl P w K mg base 1 spAsS "as_steps") (C_Inn:Cl P w K mg base 2 spInner "inner_steps") (m_reversed:mg "reversed"=none):eU P w K mg base "steps_of" "steps_of" aO8 3 ["rows"] spSteps:=by
 refine gZ ["rows","steps","count","waiting","step","row"] fun H Q nd hr h=>?_
 obtain ⟨p,rs,rfl,hp,hR,hc,k⟩:=h;refine ⟨_,(cQ 1 nd (bQ cA)
  (cQ 2 nd aC
  (aF (sO ["step"] [none] (i:=3) nd rfl (ka rfl) (wM (bU C_AsS hr (aM (pv 0))) (by rfl) m_reversed) (fun _ _ _ _=>(eX 0)) (fun _ _ _ _=>dL) (fun _ _ _ _=>(aR (aA (cU (oY K) (pv 0) aC) (aA (cU (oY K) (pv 0) aC) (aM sQ))))))
  (aF (gK gp (xD (pv 3) (fun _=>rfl))
  (cQ 4 nd (aH7 bb oe og aI2 (pv 3))
  (aE (bO (dF cP (cU aZ (pv 4) aC) aG) (cQ 5 nd (cU aZ (pv 4) aC)
  (aF (bR (dG bb cm cp cH (pv 1) (aM (aR (aA aG (aA (pv 5) (aM (pv 2))))))))
  (aF (bR (dG bb eg eo eI (pv 3) (aM (cJ ["inner","count"] [none,some 2] (wM (bU C_Inn hr (aM (pv 5))) (by rfl) m_reversed) (fun _ _ _ _=>(eX 0)) (fun _ _ _ _=>dL) (fun _ _ _ _=>(aR (aA (cU (oY K) (pv 0) aC) (aA (cU (oY K) (pv 0) aC) (aM (pv 1))))))))))
  (aE (aI7 (i:=2) nd rfl (nu rfl) aC aK0))))) (aE (bR (dG bb cm cp cH (pv 1) (aM (pv 4)))))))))
  (aE (aO (pv 1))))))),?_⟩
 have rl:=nG rs;have tl:=eF rs;refine ⟨bh _,fun l1 hl1=>?_⟩;obtain ⟨H1,e0,s1,h1⟩:=yZ hl1 (.lst []);rw [e0];clear e0;refine ⟨_,rfl,p,rs,rfl,s1 _ _ hp,by omega,fun r z H2 s2 h2 t2=>⟨r,_,rfl,bH.of h2,?_⟩⟩;have zl:=t2.length;rw [ac] at zl;have t2r:=nQ t2;refine pL (K:=K) (a:=r) (xs:=z) (fun i ys σ G=>aY H2 G/\(∃ v,σ=[v])/\dA (dI G) ys (((rs.map fun r=>(("row": Str),r)).reverse).take i))
  (fW (by omega)) ⟨aY.refl _,⟨_,rfl⟩,trivial⟩ (by rintro i ys σ G ⟨_,_,e⟩;rw [e.length,bq];omega) (by rintro i ys σ G _ ⟨e,_⟩;exact bH.of (e _ _ h2)) ?_ ?_
 ·rintro i v ys σ G hv ⟨s3,⟨v',rfl⟩,tw⟩;obtain ⟨s,hs,q,rfl,hq⟩:=jI t2r hv;refine ⟨_,rfl,q,_,_,.str s.1,rfl,rfl,bA.of (s3 _ _ hq),rfl,_,rfl,q,_,_,.ref s.2.p,rfl,rfl,bA.of (s3 _ _ hq),rfl,by show 3<=sizeLine;decide,fun t ht=>⟨s3.trans (aB ht _),⟨_,rfl⟩,?_⟩⟩;rw [bE hs];exact dA.append (tw.mono fun _ _ z=>dI.ts (.of (aB ht _)) z) ⟨⟨t,_,rfl,aD⟩,trivial⟩
 rintro ys σ G ⟨s3,_,tw⟩ lw hlw;have el:z.length=((rs.map fun r=>(("row": Str),r)).reverse).length:=by rw [gk,ac];exact zl
 rw [el,br] at tw;have s4:=s1.trans (s2.trans (s3.trans (aB hlw (.lst ys))));have h4:aN G lw (.lst ys) lw=some (.lst ys):=aD;have ne:lw≠l1:=(aK ((s2.trans s3) _ _ h1) hlw).symm;have g1:aN G lw (.lst ys) l1=some (.lst []):=(aH ne.symm).trans ((s2.trans s3) _ _ h1);have nw:H lw=none:=(s1.trans (s2.trans s3)).free hlw;replace tw:=tw.mono fun _ _ z=>dI.ts (.of (aB hlw (.lst ys))) z
 generalize aN G lw (.lst ys)=H4 at s4 h4 g1 tw ⊢;refine ⟨fun m σ G=>∃ (em stk:List Stp) (ez wz:List V) (n:Int) (v4 v5:Option V),σ=[some (.ref p),some (.ref l1),some (.int n),some (.ref lw),v4,v5]/\aY H G/\G l1=some (.lst ez)/\dA (dI G) ez em/\G lw=some (.lst wz)/\dA (dI G) wz stk.reverse/\em++stk.flatMap expd=eZ rs/\(∀ s∈stk,iC H s.2/\s.2.cnt<=4000)/\m=(stk.flatMap expd).length,
  ⟨_,[],rs.map fun r=>(("row": Str),r),[],ys,0,none,none,rfl,s4,g1,trivial,h4,tw,hG rs,fun s hs=>by
   obtain ⟨r0,m0,e0⟩:=fk.mp hs;rw [<- e0];have:=kK m0;exact ⟨hR.mem _ m0,by show r0.cnt<=4000;omega⟩,rfl⟩,?_⟩
 clear tw h4 g1;rintro m σ G ⟨em,stk,ez,wz,n,v4,v5,rfl,s5,g1,t5,g2,t6,eq,hs,rfl⟩;refine ⟨_,rfl,_,.inl ⟨_,bH.of g2,rfl⟩,?_⟩;have lt:=ee List.length eq;rw [ap] at lt;have ls:=qU stk;have l5:=t5.length;have l6:=t6.length;rw [gk] at l6
 cases stk with
 |nil =>
  obtain rfl:wz=[]:=cj.mp l6;refine bC (by simp) ?_;rw [lv,dm] at eq;rw [eq] at t5;exact ⟨_,rfl,k l1 ez G s5 hl1 g1 t5⟩
 |cons s rest =>
  rw [ko] at t6;obtain ⟨us,u,rfl,t7,q,n0,rfl,hq⟩:=qF t6;refine bP (by simp) ?_;have hS:=hs s bg;have sp:=sL s;rw [dt,ap] at lt ls;rw [ef] at ls l6;rw [ap,ef,jm] at l6;refine ⟨fun σ' G'=>∃ (em' stk':List Stp) (ez' wz':List V) (n:Int) (v4 v5:Option V),σ'=[some (.ref p),some (.ref l1),some (.int n),some (.ref lw),v4,v5]/\aY H G'/\G' l1=some (.lst ez')/\dA (dI G') ez' em'/\G' lw=some (.lst wz')/\dA (dI G') wz' stk'.reverse/\em'++stk'.flatMap expd=eZ rs/\(∀ s∈stk',iC H s.2/\s.2.cnt<=4000)/\(stk'.flatMap expd).length+1=((s :: rest).flatMap expd).length,
   (by rintro σ' G' ⟨em',stk',ez',wz',n',v4',v5',e1,e2,e3,e4,e5,e6,e7,e8,e9⟩;exact ⟨_,by omega,em',stk',ez',wz',n',v4',v5',e1,e2,e3,e4,e5,e6,e7,e8,rfl⟩),?_⟩
  refine ⟨_,rfl,.inl ⟨rfl,_,bH.of g2⟩,lw,_,V.ref q,rfl,rfl,g2,by simp,?_⟩;rw [List.dropLast_concat];have ts6:=TS.lst (ys:=us) g2;have s6:=cM (ys:=us) s5 nw;have g3:aN G lw (.lst us) lw=some (.lst us):=aD;have g4:aN G lw (.lst us) l1=some (.lst ez):=(aH ne.symm).trans g1;have hq6:=ts6 _ _ hq;replace t5:=t5.mono fun _ _ z=>dI.ts ts6 z
  replace t7:=t7.mono fun _ _ z=>dI.ts ts6 z
  generalize aN G lw (.lst us)=G1 at s6 g3 g4 hq6 t5 t7 ⊢;refine ⟨_,rfl,q,_,_,.str s.1,rfl,rfl,bA.of hq6,rfl,rfl,_,rfl,?_⟩
  by_cases c:s.1="row"
  ·refine bP (by rw [c];exact ah rfl) ?_;obtain ⟨s1',r0⟩:=s;have c:s1'="row":=c;subst c;have ex:expd (("row": Str),r0)=(("row": Str),r0) :: (dZ r0).flatMap expd:=(show expd (("row": Str),r0)=eS r0 from bj rfl).trans (rV r0);refine ⟨_,rfl,q,_,_,.ref r0.p,rfl,rfl,bA.of hq6,rfl,?_⟩;refine ⟨_,rfl,.inl ⟨rfl,_,bH.of g4⟩,_,rfl,_,rfl,by show 3<=sizeLine;decide,fun t ht=>?_⟩;have s7:=s6.trans (aB ht (.tup [.str "row",.ref r0.p,.int n]));have nt1:l1≠t:=aK g4 ht;have nt2:lw≠t:=aK g3 ht;have g5:aN G1 t (.tup [.str "row",.ref r0.p,.int n]) l1=_:=(aH nt1).trans g4;have g6:aN G1 t (.tup [.str "row",.ref r0.p,.int n]) lw=_:=(aH nt2).trans g3;have et:dI (aN G1 t (.tup [.str "row",.ref r0.p,.int n])) (.ref t) (("row": Str),r0):=⟨t,n,rfl,aD⟩
   replace t5:=t5.mono fun _ _ z=>dI.ts (.of (aB ht (.tup [.str "row",.ref r0.p,.int n]))) z
   replace t7:=t7.mono fun _ _ z=>dI.ts (.of (aB ht (.tup [.str "row",.ref r0.p,.int n]))) z
   generalize aN G1 t (.tup [.str "row",.ref r0.p,.int n])=G2 at s7 g5 g6 et t5 t7 ⊢;refine ⟨l1,_,_,rfl,rfl,g5,fW (by omega),?_⟩;have ts8:=TS.lst (ys:=ez++[.ref t]) g5;have s8:=cM (ys:=ez++[.ref t]) s7 hl1;have g7:aN G2 l1 (.lst (ez++[.ref t])) l1=some (.lst (ez++[.ref t])):=aD;have g8:aN G2 l1 (.lst (ez++[.ref t])) lw=some (.lst us):=(aH ne).trans g6;have t8:=dA.append (t5.mono fun _ _ z=>dI.ts ts8 z) (show dA (dI (aN G2 l1 (.lst (ez++[.ref t])))) [.ref t] [(("row": Str),r0)] from ⟨et.ts ts8,trivial⟩);replace t7:=t7.mono fun _ _ z=>dI.ts ts8 z
   generalize aN G2 l1 (.lst (ez++[.ref t]))=G3 at s8 g7 g8 t8 t7 ⊢;refine ⟨_,rfl,.inl ⟨rfl,_,bH.of g8⟩,_,rfl,r0,rfl,iC.ts (.of s8) r0 hS.1,hS.2,fun qi zi H9 s9 h9 t9=>⟨qi,_,rfl,bH.of h9,?_⟩⟩;have t9r:=nQ t9;have zl9:=t9.length;have li:=qU (dZ r0);rw [ex,ef] at lt ls sp;refine pL (K:=K) (a:=qi) (xs:=zi) (fun i ys σ G=>aY H9 G/\(∃ v,σ=[v,some (.int n)])/\dA (dI G) ys ((dZ r0).reverse.take i))
    (fW (by omega)) ⟨aY.refl _,⟨_,rfl⟩,trivial⟩ (by rintro i ys σ G ⟨_,_,e⟩;rw [e.length,bq];omega) (by rintro i ys σ G _ ⟨e,_⟩;exact bH.of (e _ _ h9)) ?_ ?_
   ·rintro i v ys σ G hv ⟨s3,⟨v',rfl⟩,tw⟩;obtain ⟨s,hs,q,rfl,hq⟩:=jI t9r hv;refine ⟨_,rfl,q,_,_,.str s.1,rfl,rfl,bA.of (s3 _ _ hq),rfl,_,rfl,q,_,_,.ref s.2.p,rfl,rfl,bA.of (s3 _ _ hq),rfl,_,rfl,by show 3<=sizeLine;decide,fun t ht=>⟨s3.trans (aB ht _),⟨_,rfl⟩,?_⟩⟩;rw [bE hs];exact dA.append (tw.mono fun _ _ z=>dI.ts (.of (aB ht _)) z) ⟨⟨t,_,rfl,aD⟩,trivial⟩
   rintro ys σ G5 ⟨s10,_,tw⟩ l10 hl10;have el:zi.length=(dZ r0).reverse.length:=by rw [gk];exact zl9
   rw [el,br] at tw;have s11:=s9.trans (s10.trans (aB hl10 (.lst ys)));have h11:aN G5 l10 (.lst ys) l10=some (.lst ys):=aD;have n10:lw≠l10:=aK ((s9.trans s10) _ _ g8) hl10;replace tw:=tw.mono fun _ _ z=>dI.ts (.of (aB hl10 (.lst ys))) z
   generalize aN G5 l10 (.lst ys)=G6 at s11 h11 tw ⊢;have yl:=tw.length;rw [gk] at yl;refine ⟨lw,l10,_,_,rfl,rfl,s11 _ _ g8,h11,cg (fW (by omega)),?_⟩;have ts12:=(TS.of s11).trans (TS.lst (ys:=us++ys) (s11 _ _ g8));refine ⟨_,rfl,_,_,rfl,rfl,em++[(("row": Str),r0)],dZ r0++rest,_,_,_,_,_,rfl,cM (s8.trans s11) nw,(aH ne.symm).trans (s11 _ _ g7),t8.mono fun _ _ z=>dI.ts ts12 z,aD,?_,?_,fun s hs'=>?_,?_⟩
   ·rw [List.reverse_append];exact dA.append (t7.mono fun _ _ z=>dI.ts ts12 z) (tw.mono fun _ _ z=>dI.ts (TS.lst (s11 _ _ g8)) z)
   ·rw [<- eq,dt,ex,ij];simp
   ·rcases dj.mp hs' with e | e
    ·exact vW hS.1 hS.2 e
    ·exact hs s (aq _ e)
   ·rw [dt,ex,ij];simp <;> omega
  ·refine bC (fun z=>c (by have z:=ao z;injection z)) ?_;have ex:expd s=[s]:=ar c;refine ⟨_,rfl,.inl ⟨rfl,_,bH.of g4⟩,_,rfl,l1,_,_,rfl,rfl,g4,fW (by omega),?_⟩;have ts8:=TS.lst (ys:=ez++[.ref q]) g4;refine ⟨em++[s],rest,_,_,_,_,_,rfl,cM s6 hl1,aD,dA.append (t5.mono fun _ _ z=>dI.ts ts8 z) ⟨⟨q,n0,rfl,ts8 _ _ hq6⟩,trivial⟩,(aH ne).trans g3,t7.mono fun _ _ z=>dI.ts ts8 z,?_,fun s hs'=>hs s (aq _ hs'),?_⟩
   ·rw [<- eq,dt,ex];simp
   ·rw [dt,ex];simp <;> omega
theorem aG0 (C_Sts:Cl P w K mg base 3 spSteps "steps_of"):eU P w K mg base "rows_in" "rows_in" aU8 4 ["program"] spRowsIn:=by
 refine gZ ["program"] fun H Q nd hr h=>?_
 obtain ⟨p,ks,rs,rfl,P0,k⟩:=h;refine ⟨_,(aE (aO (cJ ["word","row","number"] [none,none,none] (dE (bU C_Sts hr (aM (cU aZ (pv 0) aC)))) (fun _ _ _ _=>(aY1 K (n:=3) rfl (dB (eX 0) (dB (eX 1) (dB (eX 2) kM))))) (fun _ _ _ _=>(nL (dF cP (pv 0) aG))) (fun _ _ _ _=>(pv 1))))),?_⟩;obtain ⟨pk,pr,hp,hk,hpr⟩:=P0.ex;have tl:=eF rs;have c0:=P0.cnt;refine ⟨_,rfl,p,_,_,.ref pr,rfl,rfl,bA.of hp,rfl,pr,rs,rfl,hpr,P0.rows,aj P0.cnt (by decide),fun r zs H1 s1 _ h1 t1=>⟨r,rfl,⟨_,bH.of h1⟩,?_⟩⟩;have zl:=t1.length;refine fO (K:=K) (a:=r) (xs:=zs) (fun i ys σ G=>G=H1/\(∃ v1 v2 v3,σ=[v1,v2,v3])/\ys=aQ ((((eZ rs).take i).filter fun s:Stp=>decide (s.1="row")).map (·.2)))
  (fW (by omega)) ⟨rfl,⟨_,_,_,rfl⟩,rfl⟩ (fun i ys σ G ⟨_,_,e⟩=>by
   rw [e,bN,ac];exact aj (dz _ _) (by rw [bq];omega)) (by rintro i ys σ G _ ⟨e,_⟩;rw [e];exact bH.of h1) ?_ ?_
 ·rintro i v ys σ G hv ⟨rfl,⟨v1,v2,v3,rfl⟩,rfl⟩;obtain ⟨s,hs,q,n,rfl,hq⟩:=jI t1 hv;refine ⟨q,_,rfl,bA.of hq,rfl,_,_,rfl,_,_,rfl,_,_,rfl,rfl,?_⟩;refine ⟨_,rfl,rfl,_,rfl,?_⟩;rw [bE hs,fz,az,fN]
  by_cases c:s.1="row"
  ·refine bP (by rw [c];exact ah rfl) ⟨_,rfl,rfl,⟨_,_,_,rfl⟩,?_⟩;rw [cy (p:=fun s:Stp=>decide (s.1="row")) (ah c)];rfl
  ·refine bC (fun z=>c (by have z:=ao z;injection z)) ⟨rfl,⟨_,_,_,rfl⟩,?_⟩;rw [bz (p:=fun s:Stp=>decide (s.1="row")) (by simpa using c)];simp [aQ]
 ·rintro ys σ G ⟨rfl,_,rfl⟩ l hl;rw [zl,br,eJ];exact k l _ (s1.trans (aB hl _)) (s1.free hl) aD
theorem aI5 {cT:Addr}(m_THROWS:mg "THROWS"=some (.ref cT)) (hT:∀ H,bA K H cT (iB.map V.str)) (C_RwI:Cl P w K mg base 4 spRowsIn "rows_in"):eU P w K mg base "throws_in" "throws_in" aR4 5 ["program"] spThrsIn:=by
 refine gZ ["program"] fun H Q nd hr h=>?_
 obtain ⟨p,ks,rs,rfl,P0,k⟩:=h;refine ⟨_,(aE (aO (cJ ["row"] [none] (dE (bU C_RwI hr (aM (pv 0)))) (fun _ _ _ _=>(eX 0)) (fun _ _ _ _=>(nL (dF (inK K) (cU (oY K) (pv 0) aC) (pgl m_THROWS)))) (fun _ _ _ _=>(pv 0))))),?_⟩;have c0:=P0.cnt;refine ⟨_,rfl,p,ks,rs,rfl,P0,fun r H1 s1 _ h1=>⟨r,rfl,⟨_,bH.of h1⟩,?_⟩⟩;have fl:=dN rs;have rH:=bI.ts (.of s1) _ (bI.flat rs P0.rows);refine fO (K:=K) (a:=r) (xs:=aQ (cE rs)) (fun i ys σ G=>G=H1/\(∃ v1,σ=[v1])/\ys=aQ (((cE rs).take i).filter qN))
  (fW (by rw [bN];omega)) ⟨rfl,⟨_,rfl⟩,rfl⟩ (fun i ys σ G ⟨_,_,e⟩=>by
   rw [e,bN];exact aj (dz _ _) (by rw [bq];omega)) (by rintro i ys σ G _ ⟨e,_⟩;rw [e];exact bH.of h1) ?_ ?_
 ·rintro i v ys σ G hv ⟨rfl,⟨v1,rfl⟩,rfl⟩;obtain ⟨r0,rfl,h0⟩:=jE hv;obtain ⟨us,hat⟩:=(rH.mem r0 (ay h0)).at;refine ⟨_,rfl,r0.p,_,_,.str r0.w,rfl,rfl,bA.of hat,yF _ _,cT,_,rfl,.inr (hT _),rfl,dM _,_,rfl,?_⟩;have ei:oU (V.str r0.w) (iB.map V.str)=qN r0:=(gO _ _).trans (aF0 r0);rw [bE h0,fz,fN]
  by_cases c:qN r0=true
  ·refine bP (ei.trans c) ⟨_,rfl,rfl,⟨_,rfl⟩,?_⟩;rw [cy c];rfl
  ·refine bC (fun z=>c (ei.symm.trans z)) ⟨rfl,⟨_,rfl⟩,?_⟩;rw [bz c];simp [aQ]
 ·rintro ys σ G ⟨rfl,_,rfl⟩ l hl;rw [bN,br];exact k l _ (s1.trans (aB hl _)) (s1.free hl) aD
theorem aD3 (C_Rng:Cl P w K mg base 1 spRngU "range_of_sums") (C_Sums:Cl P w K mg base 2 spSumsU "sums_of") (m_max:mg "max"=none):eU P w K mg base "top_of_row" "top_of_row" aS4 3 ["row","kind"] spTopR:=by
 refine gZ ["row","kind","bounds","asked"] fun H Q nd hr h=>?_
 obtain ⟨r,kd,n,rfl,hR,th,hk,k⟩:=h;refine ⟨_,(cQ 2 nd (bU C_Rng hr (aM (pv 0)))
  (aF (bO (dF cP (cU aZ (pv 2) aC) (cU aZ (pv 2) aC)) (aE (aO aC)) aX)
  (aF (sO ["weights","kind"] [none,some 1] (i:=3) nd rfl (ka rfl) (fB (bU C_Sums hr (aM (pv 0)))) (fun _ _ _ _=>(eX 0)) (fun _ _ _ _=>(nL (dF fA (cU (oY K) (pv 0) (pv 1)) aC))) (fun _ _ _ _=>(cU (oY K) (pv 0) (pv 1))))
  (aE (aO (aC7 K m_max (aM (cJ ["weight","bounds"] [none,some 2] (dE (pv 3)) (fun _ _ _ _=>(eX 0)) (fun _ _ _ _=>dL) (fun _ _ _ _=>(aJ gJ (aJ cL (aJ aW (cU (oY K) (pv 1) aC) (pv 0)) aC) (pv 0))))) aC)))))),?_⟩
 obtain ⟨p,x,T,a3,wss,rfl,ok,l1,l4,hw⟩:=th;obtain ⟨hx,hs⟩:=hR;have hV:=hx.t.v;obtain ⟨lo0,lh,h9⟩:=ok.lo0;refine ⟨_,rfl,p,T.wd,a3,T.lo,T.hb,rfl,hV,fun H1 t s1 t1=>?_⟩;refine ⟨_,rfl,t,_,_,.int T.lo,rfl,rfl,bA.of t1,rfl,_,rfl,t,_,_,.int T.hb,rfl,rfl,bA.of t1,rfl,rfl,_,rfl,?_⟩
 by_cases c:T.lo=T.hb
 ·refine bP (by rw [c];exact ah rfl) ?_;have:=k H1 s1;rw [show tR kd (.thr p x T a3 wss)=0 from uI c] at this;exact this
 refine bC (fun z=>c (by have z:=ao z;injection z)) ?_;refine ⟨_,rfl,p,T.wd,a3,T.lo,T.hb,wss,rfl,hV.ts (.of s1),by rw [aE9];exact hs.ts (.of s1),fun H2 sm us s2 h2 t2=>⟨sm,rfl,⟨_,bA.of h2⟩,?_⟩⟩;have ul:=t2.length;have t1':=s2 _ _ t1;refine lP (K:=K) (a:=sm) (xs:=us) (fun i ys σ G=>G=H2/\(∃ v,σ=[v,some (.int kd)])/\ys=((((wss.take i).map fun ws=>ws.getD kd 0)).filter fun w=>decide (0 < w)).map V.int)
  (aU (by omega)) ⟨rfl,⟨_,rfl⟩,rfl⟩ (fun i ys σ G ⟨_,_,e⟩=>by
   rw [e,ac];exact aj (dz _ _) (by rw [ac,bq];omega)) (by rintro i ys σ G _ ⟨e,_⟩;rw [e];exact bA.of h2) ?_ ?_
 ·rintro i v ys σ G hv ⟨rfl,⟨v',rfl⟩,rfl⟩;obtain ⟨ws,hws,q,rfl,hq⟩:=jI t2 hv;obtain ⟨wl,wb⟩:=hw ws (ay hws);have ea:=xU (ns:=ws) (k:=kd) (by omega);refine ⟨_,rfl,_,rfl,q,_,_,_,rfl,rfl,bA.of hq,ea,_,_,rfl,rfl,_,rfl,?_⟩;rw [bE hws,az,fz,az]
  by_cases c0:0 < ws.getD kd 0
  ·refine bP (ah c0) ⟨_,rfl,_,rfl,q,_,_,_,rfl,rfl,bA.of hq,ea,rfl,⟨_,rfl⟩,?_⟩;rw [df,cy (p:=fun w:Int=>decide (0 < w)) (ah c0)];rfl
  ·refine bC (by simpa using c0) ⟨rfl,⟨_,rfl⟩,?_⟩;rw [df,bz (p:=fun w:Int=>decide (0 < w)) (by simpa using c0)];simp
 rintro ys σ G ⟨rfl,_,rfl⟩ la hla;rw [show us.length=wss.length from ul,br];have s3:=aB hla (.lst ((((wss.map fun ws=>ws.getD kd 0)).filter fun w=>decide (0 < w)).map V.int));have h3:aN G la (.lst ((((wss.map fun ws=>ws.getD kd 0)).filter fun w=>decide (0 < w)).map V.int)) la=some (.lst ((((wss.map fun ws=>ws.getD kd 0)).filter fun w=>decide (0 < w)).map V.int)):=aD;have eq:iA ((((wss.map fun ws=>ws.getD kd 0)).filter fun w=>decide (0 < w)).map fun w=>(T.hb+w - 1) / w)=tR kd (.thr p x T a3 wss):=yB c (by omega);have wp:∀ w∈((wss.map fun ws=>ws.getD kd 0)).filter (fun w=>decide (0 < w)),0 < w/\w<=3:=fun w hm=>by
  obtain ⟨m1,m2⟩:=de.mp hm;obtain ⟨ws,m3,rfl⟩:=fk.mp m1;obtain ⟨wl,wb⟩:=hw ws m3;have hk':kd < ws.length:=by omega
  have:ws.getD kd 0∈ws:=by rw [fm,bp hk'];exact ia hk'
  exact ⟨ao m2,(wb _ this).2⟩
 have wl:(((wss.map fun ws=>ws.getD kd 0)).filter fun w=>decide (0 < w)).length<=4:=aj (dz _ _) (by rw [ac];omega);generalize aN G la _=H3 at s3 h3 ⊢;generalize ((wss.map fun ws=>ws.getD kd 0)).filter (fun w=>decide (0 < w))=as at h3 eq wp wl;have t3:=s3 _ _ t1';refine ⟨_,rfl,la,rfl,⟨_,bH.of h3⟩,fO (K:=K) (a:=la) (xs:=as.map V.int) (fun i ys σ G=>G=H3/\(∃ v,σ=[v,some (.ref t)])/\ys=((as.take i).map fun w=>(T.hb+w - 1) / w).map V.int)
  (aU (by rw [ac];omega)) ⟨rfl,⟨_,rfl⟩,rfl⟩ (by rintro i ys σ G ⟨_,_,e⟩;rw [e,ac,ac,bq];omega) (by rintro i ys σ G _ ⟨e,_⟩;rw [e];exact bH.of h3) ?_ ?_⟩
 ·rintro i v ys σ G hv ⟨rfl,⟨v',rfl⟩,rfl⟩;obtain ⟨w,rfl,hw'⟩:=eV hv;obtain ⟨w0,w3⟩:=wp w (ay hw');refine ⟨_,rfl,t,_,_,.int T.hb,rfl,rfl,bA.of t3,rfl,_,rfl,_,_,rfl,rfl,_,_,rfl,rfl,_,rfl,_,_,rfl,rfl,⟨by omega,ir (b:=3) (by omega) (by decide +kernel)⟩,rfl,⟨_,rfl⟩,?_⟩;rw [bE hw',az,az];rfl
 rintro ys σ G ⟨rfl,_,rfl⟩ lb hlb;rw [ac,br];have s4:=aB hlb (.lst ((as.map fun w=>(T.hb+w - 1) / w).map V.int));refine ⟨lb,_,rfl,bH.of aD,fun e=>?_,fun i hi hm=>?_⟩
 ·have:=k _ (s1.trans (s2.trans (s3.trans s4)));rw [show tR kd (.thr p x T a3 wss)=0 by rw [<- eq,e];rfl] at this;exact this
 ·have:=k _ (s1.trans (s2.trans (s3.trans s4)));rw [<- eq, <- vU (fun n hn=>?_) hi hm] at this
  ·exact this
  ·obtain ⟨w,hw',rfl⟩:=fk.mp hn;have w0:=(wp w hw').1;exact mh (by omega) (by omega)
theorem aF3 (C_ThI:Cl P w K mg base 5 spThrsIn "throws_in") (C_TpR:Cl P w K mg base 3 spTopR "top_of_row") (m_tuple:mg "tuple"=none) (m_max:mg "max"=none) (m_range:mg "range"=none) (m_len:mg "len"=none):eU P w K mg base "tops" "tops" aR2 6 ["program"] spTops:=by
 refine gZ ["program","throws"] fun H Q nd hr h=>?_
 obtain ⟨p,ks,rs,rfl,P0,k⟩:=h;refine ⟨_,(cQ 1 nd (bU C_ThI hr (aM (pv 0)))
  (aE (aO (uS bX m_tuple cz (aM (vG "kind" ["kind","throws"] [none,some 1] (bV (by rfl) m_range (aM (lY cC m_len gj (aM (cU aZ (pv 0) aC))))) (fun _ _ _ _=>(eX 0 (by dsimp only [bK];decide +kernel))) (fun _ _ _ _=>dL) (fun _ _ _ _=>(aC7 K m_max (aM (cJ ["row","kind"] [none,some 0] (aV9 K (pv 1)) (fun _ _ _ _=>(eX 0)) (fun _ _ _ _=>dL) (fun _ _ _ _=>(bU C_TpR hr (aA (pv 0) (aM (pv 1))))))) aC)))))))),?_⟩
 refine ⟨_,rfl,p,ks,rs,rfl,P0,fun lt H1 s1 _ h1=>?_⟩;obtain ⟨pk,pr,hp,hk,hpr⟩:=P0.ex;have k3:=P0.k3;have tl:(bF rs).length<=300:=aj (dz _ _) (by rw [dN];exact P0.cnt);have rH:bI H (cE rs):=bI.flat rs P0.rows;have en:(((ks.map V.str).length:Nat):Int).toNat=ks.length:=by rw [ac];rfl
 refine ⟨_,rfl,p,_,_,.ref pk,rfl,rfl,bA.of (s1 _ _ hp),rfl,pk,_,rfl,.inr (bA.of (s1 _ _ hk)),(ks.map V.str).length,rfl,by omega,by rw [ac];omega,cV (n:=(((ks.map V.str).length:Nat):Int).toNat) (fun i ys σ G=>aY H1 G/\(∃ v,σ=[v,some (.ref lt)])/\ys=((List.range i).map (wA rs)).map V.int) (aU (by omega)) ⟨.refl _,⟨_,rfl⟩,rfl⟩
  (by rintro i ys σ G ⟨_,_,e⟩;rw [e,ac,ac,fg];omega) ?_ ?_⟩
 ·rintro i ys σ G hi ⟨s2,⟨v,rfl⟩,rfl⟩;rw [en] at hi;refine ⟨_,rfl,lt,rfl,⟨_,bH.of (s2 _ _ h1)⟩,fO (K:=K) (a:=lt) (xs:=aQ (bF rs)) (fun j zs σ G'=>aY G G'/\(∃ v,σ=[v,some (.int (0+i))])/\zs=(((bF rs).take j).map (tR i)).map V.int)
   (aU (by rw [bN];omega)) ⟨.refl _,⟨_,rfl⟩,rfl⟩ (by rintro j zs σ G ⟨_,_,e⟩;rw [e,ac,ac,bq];omega) (by rintro j zs σ G' _ ⟨e,_⟩;exact bH.of (e _ _ (s2 _ _ h1))) ?_ ?_⟩
  ·rintro j v' zs σ G' hv ⟨s3,⟨v2,rfl⟩,rfl⟩;obtain ⟨r,rfl,hr'⟩:=jE hv;have hm:=ay hr';have hr2:=rH.mem r (de.mp hm).1;refine ⟨_,rfl,_,rfl,r,i,ks.length,by rw [jt];rfl,iC.ts (.of (s1.trans (s2.trans s3))) r hr2,P0.th r hm,hi,fun G2 s4=>⟨s3.trans s4,⟨_,rfl⟩,?_⟩⟩;rw [bE hr',az,az];rfl
  rintro zs σ G' ⟨s3,_,rfl⟩ l4 hl4;rw [bN,br];have s4:=s2.trans (s3.trans (aB hl4 (.lst (((bF rs).map (tR i)).map V.int))));have e:((List.range (i+1)).map (wA rs)).map V.int=((List.range i).map (wA rs)).map V.int++[.int (wA rs i)]:=by rw [ju,az,az];rfl
  refine ⟨l4,_,rfl,bH.of aD,fun e0=>⟨s4,⟨_,rfl⟩,?_⟩,fun m hm hge=>⟨s4,⟨_,rfl⟩,?_⟩⟩
  ·rw [e];unfold wA;rw [e0];rfl
  ·rw [e,vU (fun n hn=>?_) hm hge]
   ·rfl
   ·obtain ⟨r,hr',rfl⟩:=fk.mp hn;exact (aB8 (P0.th r hr') hi).1
 rintro ys σ G ⟨s2,_,rfl⟩ l5 hl5;rw [en];have s5:=aB hl5 (.lst (((List.range ks.length).map (wA rs)).map V.int));refine ⟨l5,_,rfl,.inl ⟨bH.of aD,fun t ht=>k t _ (s1.trans (s2.trans (s5.trans (aB ht _)))) aD⟩⟩
theorem aJ1 {C D:Addr}(W:dR K C D) (n0:nY K C "most"):eU P w K mg base "__init__" "TooMany.__init__" wZ 1 ["self","most"] (nM C):=by
 refine gZ ["self","most"] fun H Q nd hr h=>?_
 obtain ⟨a,m,rfl,hx,k⟩:=h;refine ⟨_,(aE (vI (pv 0) (pv 1) rfl)),?_⟩;exact ⟨_,rfl,_,rfl,a,C,D,rfl,W,n0,hx,fun dx hd=>k dx hd⟩
theorem yA {cN:Addr}(M_TooMany:Mk2 P w K mg base cN (nM cN) "TooMany") (C_Tps:Cl P w K mg base 6 spTops "tops") (m_range:mg "range"=none):kF P w K mg base "all_crowds" "all_crowds" aT6 7 ["program","most"] (pI cN):=by
 refine xF ["program","most","limits","many","limit","crowds","longer","crowd"] fun H Q nd hr h=>?_
 obtain ⟨p,most,ks,rs,rfl,P0,k1,k2⟩:=h;refine ⟨_,(cQ 2 nd (bU C_Tps hr (aM (pv 0)))
  (cQ 3 nd aC
  (aF (nJ (fB (pv 2)) (eX 4 nd)
  (aE (kC 3 nd (aJ fS (pv 3) (aJ aW (pv 4) aC)))) jc)
  (aF (bO (dF fA (pv 3) (pv 1)) (aE (tN M_TooMany hr (aM (pv 1)))) aX)
  (cQ 5 nd (bQ (aM (aR cA)))
  (aF (nJ (fB (pv 2)) (eX 4 nd)
  (cQ 6 nd (bQ cA)
  (aF (nJ (dE (pv 5)) (eX 7 nd)
  (aE (bR (dG bb eg eo eI (pv 6) (aM (cJ ["count","crowd"] [none,some 7] (bV (by rfl) m_range (aM (aJ aW (pv 4) aC))) (fun _ _ _ _=>(eX 0)) (fun _ _ _ _=>dL) (fun _ _ _ _=>(aJ oK (pv 1) (aR (aM (pv 0)))))))))) jc)
  (aE (kC 5 nd (pv 6))))) jc)
  (aE (aO (pv 5))))))))),?_⟩
 refine ⟨_,rfl,p,ks,rs,rfl,P0,fun t H1 s1 t1=>?_⟩;have tb:=wG P0.th;have tl3:(cX rs ks.length).length<=3:=by rw [pG];exact P0.k3
 generalize cX rs ks.length=ts at k1 k2 t1 tb tl3;refine ⟨_,rfl,t,rfl,⟨_,bA.of t1⟩,eQ (K:=K) (a:=t) (xs:=ts.map V.int) (fun i σ G=>∃ v4:Option V,σ=[some (.ref p),some (.int most),some (.ref t),some (.int (mD (ts.take i))),v4,none,none,none]/\G=H1) ⟨_,rfl,rfl⟩ (by rintro i σ G _ ⟨_,_,e⟩;rw [e];exact bA.of t1) ?_ ?_⟩
 ·rintro D' N i hN v σ G hv ⟨v4,rfl,rfl⟩;obtain ⟨lim,rfl,hlim⟩:=eV hv;obtain ⟨b0,b9⟩:=tb lim (ay hlim);refine ⟨_,rfl,_,rfl,_,_,rfl,rfl,_,_,rfl,rfl,.inr ⟨by omega,by omega⟩,?_⟩;refine hN _ _ ⟨some (.int lim),?_,rfl⟩;rw [bE hlim,iX];rfl
 rintro σ Z1 ⟨v4,rfl,rfl⟩;rw [ac,br];refine ⟨_,rfl,_,rfl,_,_,rfl,rfl,_,rfl,?_⟩
 by_cases c:most < mD ts
 ·refine bP (ah c) ?_;exact ⟨_,rfl,iY,fun x hx=>⟨x,_,rfl,aD,fun dx hd=>⟨rfl,xW s1 hx hd (k2 c dx)⟩⟩⟩
 refine bC (by simpa using c) ?_;refine ⟨bh _,fun q0 hq0=>⟨iY,fun lc hlc=>?_⟩⟩;have u0:=(aB hq0 (.tup [])).trans (aB hlc (.lst [.ref q0]));have g0:aN (aN Z1 q0 (.tup [])) lc (.lst [.ref q0]) lc=some (.lst [.ref q0]):=aD;have w0:dA (dH (aN (aN Z1 q0 (.tup [])) lc (.lst [.ref q0]))) [.ref q0] [[]]:=⟨⟨q0,rfl,(aB hlc _) _ _ aD⟩,trivial⟩
 have fl:Z1 lc=none:=(aB hq0 _).free hlc;generalize aN (aN Z1 q0 (.tup [])) lc (.lst [.ref q0])=H2 at u0 g0 w0 ⊢;refine ⟨_,rfl,t,rfl,⟨_,bA.of (u0 _ _ t1)⟩,eQ (K:=K) (a:=t) (xs:=ts.map V.int) (fun i σ G=>∃ (lc:Addr) (vs:List V) (v4 v6 v7:Option V),σ=[some (.ref p),some (.int most),some (.ref t),some (.int (mD ts)),v4,some (.ref lc),v6,v7]/\aY Z1 G/\Z1 lc=none/\G lc=some (.lst vs)/\dA (dH G) vs (iS (ts.take i)))
  ⟨lc,_,_,_,_,rfl,u0,fl,g0,w0⟩ (by rintro i σ G _ ⟨_,_,_,_,_,_,s,_⟩;exact bA.of (s _ _ t1)) ?_ ?_⟩
 ·rintro D' N i hN v σ G hv ⟨lc,vs,v4,v6,v7,rfl,s2,fc,g2,w2⟩;obtain ⟨lim,rfl,hlim⟩:=eV hv;obtain ⟨b0,b9⟩:=tb lim (ay hlim);have vl:=w2.length;have cl:=xE tb tl3 i;refine ⟨bh _,fun ll hll=>?_⟩;have u3:=aB hll (.lst []);have g3:aN G ll (.lst []) ll=some (.lst []):=aD;have g3c:=u3 _ _ g2;generalize aN G ll (.lst [])=H3 at u3 g3 g3c ⊢;refine ⟨_,rfl,lc,rfl,⟨_,bH.of g3c⟩,fJ (K:=K) (a:=lc) (xs:=vs) (fun j σ G'=>∃ (us:List V) (v7:Option V),σ=[some (.ref p),some (.int most),some (.ref t),some (.int (mD ts)),some (.int lim),some (.ref lc),some (.ref ll),v7]/\aY G G'/\G' ll=some (.lst us)/\dA (dH G') us (tX ((iS (ts.take i)).take j) lim))
   ⟨[],_,rfl,u3,g3,trivial⟩ (by rintro j σ G' _ ⟨_,_,_,s,_⟩;exact bH.of (s _ _ g2)) ?_ ?_⟩
  ·rintro D2 N2 j hN2 v σ G' hv2 ⟨us,v7',rfl,s4,g4,w4⟩;obtain ⟨c,hc,q,rfl,hq⟩:=jI w2 hv2;have ul:=w4.length;rw [nH,bq] at ul;have j1:j < 1000:=by have:=(bu.mp hc).1;omega
   have ul2:us.length<=10000:=by rw [ul];exact aj (cv (show _<=1000 by omega) (show (lim+1).toNat<=10 by omega)) (by decide)
   have c3:=(sE (ts.take i) fun t m=>tb t (jr m)).c c (ay hc);rw [bq] at c3;refine ⟨_,rfl,.inl ⟨rfl,_,bH.of g4⟩,_,rfl,_,_,rfl,rfl,lim+1,rfl,by omega,by omega,cV (n:=(lim+1).toNat) (fun m ys σ G2=>aY G' G2/\(∃ v,σ=[v,some (.ref q)])/\dA (dH G2) ys ((List.range m).map fun k:Nat=>c++[(k:Int)])) (aU (by omega)) ⟨.refl _,⟨_,rfl⟩,trivial⟩ (by rintro m ys σ G2 ⟨_,_,e⟩;rw [e.length,ac,fg];exact ae _) ?_ ?_⟩
   ·rintro m ys σ G2 hm ⟨s5,⟨v',rfl⟩,w5⟩;refine ⟨_,rfl,_,rfl,iY,fun q1 hq1=>?_⟩;have u6:=aB hq1 (.tup [.int (0+m)]);refine ⟨q,q1,_,_,rfl,rfl,(s4.trans (s5.trans u6)) _ _ hq,aD,by rw [ac];exact cg (aU (by show c.length+1<=_;omega)),fun q2 H7 s7 h7=>⟨s5.trans (u6.trans s7),⟨_,rfl⟩,?_⟩⟩;rw [ju,az];refine dA.append (w5.mono fun _ _ z=>dH.ts (.of (u6.trans s7)) z) ⟨⟨q2,rfl,?_⟩,trivial⟩;show H7 q2=_;rw [h7,az,jt];rfl
   rintro ys σ G2 ⟨s5,_,w5⟩ l6 hl6;have yl:=w5.length;rw [ac,fg] at yl;have u6:=s5.trans (aB hl6 (.lst ys));have h6:aN G2 l6 (.lst ys) l6=some (.lst ys):=aD;replace w5:=w5.mono fun _ _ z=>dH.ts (.of (aB hl6 (.lst ys))) z
   generalize aN G2 l6 (.lst ys)=H6 at u6 h6 w5 ⊢;have g6:=u6 _ _ g4;refine ⟨ll,l6,_,_,rfl,rfl,g6,h6,cg (fW (by omega)),?_⟩;refine hN2 _ _ ⟨us++ys,_,rfl,cM (s4.trans u6) hll,aD,?_⟩;rw [bE hc,show tX ((iS (ts.take i)).take j++[c]) lim=tX ((iS (ts.take i)).take j) lim++(List.range (lim+1).toNat).map (fun k:Nat=>c++[(k:Int)]) by unfold tX;rw [ij,dt,lv,dm]];exact dA.append (w4.mono fun _ _ z=>dH.ts ((TS.of u6).trans (TS.lst g6)) z) (w5.mono fun _ _ z=>dH.ts (TS.lst g6) z)
  ·rintro σ G' ⟨us,v7',rfl,s4,g4,w4⟩;rw [show vs.length=(iS (ts.take i)).length from vl,br] at w4;refine ⟨_,rfl,hN _ _ ⟨ll,us,_,_,_,rfl,s2.trans s4,s2.free hll,g4,?_⟩⟩;rw [bE hlim,iT];exact w4
 rintro σ G ⟨lc,vs,v4,v6,v7,rfl,s2,fc,g2,w2⟩;rw [ac,br] at w2;exact ⟨_,rfl,k1 (by omega) lc G (s1.trans s2) (s1.free fc) ⟨vs,g2,w2⟩⟩
theorem aL6 {cN:Addr}(C_ThI:Cl P w K mg base 5 spThrsIn "throws_in") (A_AlC:kZ P w K mg base 7 (pI cN) "all_crowds" []) (m_tuple:mg "tuple"=none):aE8 P w K mg base "all_tables" "all_tables" aV0 8 ["program","most"] (wJ cN):=by
 refine aX2 ["program","most","throws","tables","known","crowd","numbers"] fun H Q nd hr h=>?_
 obtain ⟨p,most,ks,rs,rfl,P0,hm,k⟩:=h;refine ⟨_,(cQ 2 nd (bU C_ThI hr (aM (pv 0)))
  (cQ 3 nd pU
  (cQ 4 nd pU
  (aF (nJ (dE (jY A_AlC hr lR (aA (pv 0) (aM (pv 1))))) (eX 5 nd)
  eG jc)
  (aE (aO (pv 3))))))),?_⟩
 refine ⟨_,rfl,p,ks,rs,rfl,P0,fun lt H1 s1 _ h1=>?_⟩;intro d1 hd1 d2 hd2;have s2:=s1.trans ((aB hd1 (.dK [])).trans (aB hd2 (.dK [])));exact ⟨_,rfl,_,rfl,p,most,ks,rs,rfl,P0.ts (.of s2),(fun z=>absurd hm (by omega)),fun _ dx H' s' r'=>k dx H' (s2.trans s') r'⟩
theorem aJ8 {cN:Addr}(C_Tbs:ClY P w K mg base 8 (wJ cN) "all_tables"):kF P w K mg base "least_rest_of" "least_rest_of" aQ8 9 ["program","kind","factor","most"] (aA7 cN):=by
 refine xF ["program","kind","factor","most","tables","greatest","one","other","rest"] fun H Q nd hr h=>?_
 obtain ⟨p,most,k1,f1,ks,rs,rfl,P0,hm,k⟩:=h;refine ⟨_,(cQ 4 nd (aS6 C_Tbs hr lR (aA (pv 0) (aM (pv 3))))
  eG),?_⟩
 exact ⟨_,rfl,_,rfl,p,most,ks,rs,rfl,P0,hm,k⟩
theorem aD2 {cN:Addr}(C_Tbs:ClY P w K mg base 8 (wJ cN) "all_tables"):kF P w K mg base "least_factor_of" "least_factor_of" aU6 9 ["program","kind","most"] (aB3 cN):=by
 refine xF ["program","kind","most","tables","greatest","one","other","factor","answers"] fun H Q nd hr h=>?_
 obtain ⟨p,most,k1,ks,rs,rfl,P0,hm,k⟩:=h;refine ⟨_,(cQ 3 nd (aS6 C_Tbs hr lR (aA (pv 0) (aM (pv 2))))
  eG),?_⟩
 exact ⟨_,rfl,_,rfl,p,most,ks,rs,rfl,P0,hm,k⟩
theorem aF7 (m_range:mg "range"=none):eU P w K mg base "_law_crowds" "_law_crowds" aS7 1 ["_law_greatest"] spLCr:=by
 refine gZ ["_law_greatest","_law_found","_law_top","_law_longer","_law_crowd"] fun H Q nd hr h=>?_
 obtain ⟨t,ts,rfl,t1,tl3,tb,k⟩:=h;refine ⟨_,(cQ 1 nd (bQ (aM (aR cA)))
  (aF (nJ (fB (pv 0)) (eX 2 nd)
  (cQ 3 nd (bQ cA)
  (aF (nJ (dE (pv 1)) (eX 4 nd)
  (aE (bR (dG bb eg eo eI (pv 3) (aM (cJ ["_law_count","_law_crowd"] [none,some 4] (bV (by rfl) m_range (aM (aJ aW (pv 2) aC))) (fun _ _ _ _=>(eX 0)) (fun _ _ _ _=>dL) (fun _ _ _ _=>(aJ oK (pv 1) (aR (aM (pv 0)))))))))))
  (aE (kC 1 nd (pv 3))))))
  (aE (aO (pv 1))))),?_⟩
 refine ⟨bh _,fun q0 hq0=>⟨iY,fun lc hlc=>?_⟩⟩;have u0:=(aB hq0 (.tup [])).trans (aB hlc (.lst [.ref q0]));have g0:aN (aN H q0 (.tup [])) lc (.lst [.ref q0]) lc=some (.lst [.ref q0]):=aD;have w0:dA (dH (aN (aN H q0 (.tup [])) lc (.lst [.ref q0]))) [.ref q0] [[]]:=⟨⟨q0,rfl,(aB hlc _) _ _ aD⟩,trivial⟩
 have fl:H lc=none:=(aB hq0 _).free hlc;generalize aN (aN H q0 (.tup [])) lc (.lst [.ref q0])=H2 at u0 g0 w0 ⊢;refine ⟨_,rfl,t,rfl,⟨_,bA.of (u0 _ _ t1)⟩,eQ (K:=K) (a:=t) (xs:=ts.map V.int) (fun i σ G=>∃ (lc:Addr) (vs:List V) (v4 v6 v7:Option V),σ=[some (.ref t),some (.ref lc),v4,v6,v7]/\aY H G/\H lc=none/\G lc=some (.lst vs)/\dA (dH G) vs (iS (ts.take i)))
  ⟨lc,_,_,_,_,rfl,u0,fl,g0,w0⟩ (by rintro i σ G _ ⟨_,_,_,_,_,_,s,_⟩;exact bA.of (s _ _ t1)) ?_ ?_⟩
 ·rintro D' N i hN v σ G hv ⟨lc,vs,v4,v6,v7,rfl,s2,fc,g2,w2⟩;obtain ⟨lim,rfl,hlim⟩:=eV hv;obtain ⟨b0,b9⟩:=tb lim (ay hlim);have vl:=w2.length;have cl:=xE tb tl3 i;refine ⟨bh _,fun ll hll=>?_⟩;have u3:=aB hll (.lst []);have g3:aN G ll (.lst []) ll=some (.lst []):=aD;have g3c:=u3 _ _ g2;generalize aN G ll (.lst [])=H3 at u3 g3 g3c ⊢;refine ⟨_,rfl,lc,rfl,⟨_,bH.of g3c⟩,fJ (K:=K) (a:=lc) (xs:=vs) (fun j σ G'=>∃ (us:List V) (v7:Option V),σ=[some (.ref t),some (.ref lc),some (.int lim),some (.ref ll),v7]/\aY G G'/\G' ll=some (.lst us)/\dA (dH G') us (tX ((iS (ts.take i)).take j) lim))
   ⟨[],_,rfl,u3,g3,trivial⟩ (by rintro j σ G' _ ⟨_,_,_,s,_⟩;exact bH.of (s _ _ g2)) ?_ ?_⟩
  ·rintro D2 N2 j hN2 v σ G' hv2 ⟨us,v7',rfl,s4,g4,w4⟩;obtain ⟨c,hc,q,rfl,hq⟩:=jI w2 hv2;have ul:=w4.length;rw [nH,bq] at ul;have j1:j < 1000:=by have:=(bu.mp hc).1;omega
   have ul2:us.length<=10000:=by rw [ul];exact aj (cv (show _<=1000 by omega) (show (lim+1).toNat<=10 by omega)) (by decide)
   have c3:=(sE (ts.take i) fun t m=>tb t (jr m)).c c (ay hc);rw [bq] at c3;refine ⟨_,rfl,.inl ⟨rfl,_,bH.of g4⟩,_,rfl,_,_,rfl,rfl,lim+1,rfl,by omega,by omega,cV (n:=(lim+1).toNat) (fun m ys σ G2=>aY G' G2/\(∃ v,σ=[v,some (.ref q)])/\dA (dH G2) ys ((List.range m).map fun k:Nat=>c++[(k:Int)])) (aU (by omega)) ⟨.refl _,⟨_,rfl⟩,trivial⟩ (by rintro m ys σ G2 ⟨_,_,e⟩;rw [e.length,ac,fg];exact ae _) ?_ ?_⟩
   ·rintro m ys σ G2 hm ⟨s5,⟨v',rfl⟩,w5⟩;refine ⟨_,rfl,_,rfl,iY,fun q1 hq1=>?_⟩;have u6:=aB hq1 (.tup [.int (0+m)]);refine ⟨q,q1,_,_,rfl,rfl,(s4.trans (s5.trans u6)) _ _ hq,aD,by rw [ac];exact cg (aU (by show c.length+1<=_;omega)),fun q2 H7 s7 h7=>⟨s5.trans (u6.trans s7),⟨_,rfl⟩,?_⟩⟩;rw [ju,az];refine dA.append (w5.mono fun _ _ z=>dH.ts (.of (u6.trans s7)) z) ⟨⟨q2,rfl,?_⟩,trivial⟩;show H7 q2=_;rw [h7,az,jt];rfl
   rintro ys σ G2 ⟨s5,_,w5⟩ l6 hl6;have yl:=w5.length;rw [ac,fg] at yl;have u6:=s5.trans (aB hl6 (.lst ys));have h6:aN G2 l6 (.lst ys) l6=some (.lst ys):=aD;replace w5:=w5.mono fun _ _ z=>dH.ts (.of (aB hl6 (.lst ys))) z
   generalize aN G2 l6 (.lst ys)=H6 at u6 h6 w5 ⊢;have g6:=u6 _ _ g4;refine ⟨ll,l6,_,_,rfl,rfl,g6,h6,cg (fW (by omega)),?_⟩;refine hN2 _ _ ⟨us++ys,_,rfl,cM (s4.trans u6) hll,aD,?_⟩;rw [bE hc,show tX ((iS (ts.take i)).take j++[c]) lim=tX ((iS (ts.take i)).take j) lim++(List.range (lim+1).toNat).map (fun k:Nat=>c++[(k:Int)]) by unfold tX;rw [ij,dt,lv,dm]];exact dA.append (w4.mono fun _ _ z=>dH.ts ((TS.of u6).trans (TS.lst g6)) z) (w5.mono fun _ _ z=>dH.ts (TS.lst g6) z)
  ·rintro σ G' ⟨us,v7',rfl,s4,g4,w4⟩;rw [show vs.length=(iS (ts.take i)).length from vl,br] at w4;refine ⟨_,rfl,hN _ _ ⟨ll,us,_,_,_,rfl,s2.trans s4,s2.free hll,g4,?_⟩⟩;rw [bE hlim,iT];exact w4
 rintro σ G ⟨lc,vs,v4,v6,v7,rfl,s2,fc,g2,w2⟩;rw [ac,br] at w2;exact ⟨_,rfl,k lc G s2 fc ⟨vs,g2,w2⟩⟩
theorem aH0 {cN D:Addr}(m_TooMany:mg "TooMany"=some (.ref cN)) (U:XUp K cN) (XO:dR K cN D) (n0:nY K cN "most") (C_AlC:kZ P w K mg base 7 (pI cN) "all_crowds" [.int 400]) (C_LRo:kZ P w K mg base 9 (aA7 cN) "least_rest_of" [.int 400]) (C_LFo:kZ P w K mg base 9 (aB3 cN) "least_factor_of" [.int 400]):eU P w K mg base "_law_refused" "_law_refused" aO6 10 ["_law_program_here","_law_way"] spRfd:=by
 refine aW2 ["_law_program_here","_law_way","_law_found","e"] fun H Q nd hr h=>?_
 obtain ⟨p,way,ks,rs,rfl,P0,hm,k⟩:=h;refine ⟨_,(sJ (PS.p0 (kC 2 nd aJ6))
  (sJ (xI (i:=3) rfl rfl rfl nd rfl rfl rfl (by rfl) m_TooMany U
   (fun Ex E1 ps=>(aE (bO (dF cP (pv 1) aC) (aE (bR (jY C_AlC hr ps (aM (pv 0))))) (aE (bO (dF cP (pv 1) aC) (aE (bR (jY C_LRo hr ps (aA (pv 0) (aA aC (aM (aR (aA aC (aM aC))))))))) (aE (bR (jY C_LFo hr ps (aA (pv 0) (aM aC))))))))))
   (fun x=>(aE (kC 2 nd (xQ K (pv 3))))))
  (kE.p0 (aE (aO (pv 2)))))),?_⟩
 refine ⟨_,rfl,rfl,_,rfl,?_⟩
 by_cases c0:way=0
 ·refine bP (by rw [c0];exact ah rfl) ?_;refine ⟨_,rfl,p,400,ks,rs,rfl,P0,(fun z=>absurd hm (by omega)),fun _ dx H1 s1 hd=>?_⟩;refine ⟨cN,D,dx,rfl,rfl,XO,.inl rfl,fun σ x hl2 hx=>?_⟩;have fr:List.lookup ("most": Str) ([("most",V.int 400)]:List (Str×V))=some (V.int 400):=rfl;obtain ⟨v0,v1,v2,v3,rfl⟩:=aH9 hl2;have u2:=aB hx (XD x cN dx);exact ⟨_,rfl,x,cN,D,dx,_,.int 400,rfl,aD,u2 _ _ hd,XO,n0,fr,_,rfl,k _ (s1.trans u2)⟩
 refine bC (fun z=>c0 (by have z:=ao z;injection z)) ?_;refine ⟨_,rfl,rfl,_,rfl,?_⟩
 by_cases c1:way=1
 ·refine bP (by rw [c1];exact ah rfl) ?_;refine ⟨_,rfl,dW,fun q hq=>?_⟩;have u1:=aB hq (.tup [.int 2,.int 1]);refine ⟨p,400,_,_,ks,rs,rfl,P0.ts (.of u1),hm,fun dx H1 s1 hd=>?_⟩;refine ⟨cN,D,dx,rfl,rfl,XO,.inl rfl,fun σ x hl2 hx=>?_⟩;have fr:List.lookup ("most": Str) ([("most",V.int 400)]:List (Str×V))=some (V.int 400):=rfl;obtain ⟨v0,v1,v2,v3,rfl⟩:=aH9 hl2;have u2:=aB hx (XD x cN dx);exact ⟨_,rfl,x,cN,D,dx,_,.int 400,rfl,aD,u2 _ _ hd,XO,n0,fr,_,rfl,k _ (u1.trans (s1.trans u2))⟩
 ·refine bC (fun z=>c1 (by have z:=ao z;injection z)) ?_;refine ⟨_,rfl,p,400,_,ks,rs,rfl,P0,hm,fun dx H1 s1 hd=>?_⟩;refine ⟨cN,D,dx,rfl,rfl,XO,.inl rfl,fun σ x hl2 hx=>?_⟩;have fr:List.lookup ("most": Str) ([("most",V.int 400)]:List (Str×V))=some (V.int 400):=rfl;obtain ⟨v0,v1,v2,v3,rfl⟩:=aH9 hl2;have u2:=aB hx (XD x cN dx);exact ⟨_,rfl,x,cN,D,dx,_,.int 400,rfl,aD,u2 _ _ hd,XO,n0,fr,_,rfl,k _ (s1.trans u2)⟩
theorem aK2  : eU P w K mg base "has_one_sum" "has_one_sum" aT0 1 ["sort"] spOneU:=by
 refine gZ ["sort"] fun H Q nd hr h=>?_
 obtain ⟨wd,rfl,k⟩:=h;refine ⟨_,(aE (aO (pec cW (pv 0) (aR (aA aG (aM aG)))))),?_⟩;refine ⟨_,rfl,dW,fun t ht=>⟨t,[.str "ladder",.str "flat"],rfl,.inr (bA.of aD),rfl,rfl,?_⟩⟩;exact k _ (aB ht _)
theorem wF  : eU P w K mg base "place_of_sums" "place_of_sums" vJ 1 ["sort"] spPlaceU:=by
 refine gZ ["sort"] fun H Q nd hr h=>?_
 obtain ⟨wd,rfl,k⟩:=h;refine ⟨_,(aE (aO (jK (dF cP (pv 0) aG) aC aC))),?_⟩;refine ⟨_,rfl,rfl,_,rfl,?_⟩
 by_cases c:wd="first"
 ·rw [bj c] at k;exact uX (by rw [c];exact aN0 _) k
 ·rw [ar c] at k;exact vY (aQ9 c) k
theorem yM (C_Place:Cl P w K mg base 1 spPlaceU "place_of_sums") (C_One:Cl P w K mg base 1 spOneU "has_one_sum"):eU P w K mg base "sums_of" "sums_of" aC0 2 ["row"] spSumsU:=by
 refine gZ ["row","asked"] fun H Q nd hr h=>?_
 obtain ⟨r,wd,a3,lo,hb,wss,rfl,hw,so,k⟩:=h;refine ⟨_,(cQ 1 nd (cU aZ (pv 0) (bU C_Place hr (aM (cU aZ (pv 0) aC))))
  (aE (aO (jK (lH (bU C_One hr (aM (cU aZ (pv 0) aC)))) (aR (aM (pv 1))) (pv 1))))),?_⟩
 obtain ⟨xs,hx,x0,x2,_,_⟩:=hw;refine ⟨_,rfl,_,rfl,r,_,_,_,rfl,rfl,bA.of hx,x0,wd,rfl,r,_,_,_,rfl,rfl,bA.of hx,x2,?_⟩;refine ⟨_,rfl,r,_,_,_,rfl,rfl,bA.of hx,x0,wd,rfl,fun H1 s1=>⟨_,rfl,?_⟩⟩;rcases so with ⟨e,w,ws,rfl,hws,rfl⟩ | ⟨e,sm,rfl,vs,hsm,tw⟩
 ·refine uX e ?_;exact ⟨_,rfl,iY,fun t ht=>k _ t _ (s1.trans (aB ht _)) aD ⟨⟨w,rfl,aB ht _ _ _ (s1 _ _ hws)⟩,trivial⟩⟩
 ·refine vY e ?_;exact ⟨_,rfl,k _ sm vs s1 (s1 _ _ hsm) (tw.mono fun _ _ z=>z.ts (.of s1))⟩
theorem aD9  : eU P w K mg base "range_of_sums" "range_of_sums" aO0 1 ["row"] spRngU:=by
 refine gZ ["row"] fun H Q nd hr h=>?_
 obtain ⟨r,wd,a3,lo,hb,rfl,hw,k⟩:=h;refine ⟨_,(aE (aO (aR (aA (cU aZ (pv 0) (wC rP aC)) (aM (jK (dF cP (cU aZ (pv 0) aC) aG) (aJ cL (cU aZ (pv 0) sQ) aC) (cU aZ (pv 0) sQ))))))),?_⟩;obtain ⟨xs,hx,x0,_,xl,xh⟩:=hw;refine ⟨_,rfl,_,rfl,r,_,_,_,rfl,rfl,bA.of hx,xl,?_⟩;refine ⟨_,rfl,r,_,_,_,rfl,rfl,bA.of hx,x0,rfl,_,rfl,?_⟩
 by_cases c:wd="first"
 ·rw [bj c] at xh;refine uX (by rw [c];exact aN0 _) ?_;refine ⟨_,rfl,r,_,_,_,rfl,rfl,bA.of hx,xh,_,_,rfl,rfl,dW,fun t ht=>k _ t (aB ht _) ?_⟩;show aN H t _ t=some (.tup [.int lo,.int hb]);rw [aD];show some (HO.tup [V.int lo,V.int (hb+1 - 1)])=_;rw [show hb+1 - 1=hb by omega]
 ·rw [ar c] at xh;exact vY (aQ9 c) ⟨_,rfl,r,_,_,_,rfl,rfl,bA.of hx,xh,dW,fun t ht=>k _ t (aB ht _) aD⟩
theorem aE4 (n:Nat) (C_LTs:Cl P w K mg base (n+1) (rT n) "_law_throws"):eU P w K mg base "_law_throws" "_law_throws" aN5 (n+1+1) ["_law_rows_here"] (rT (n+1)):=by
 refine gZ ["_law_rows_here","_law_found","_law_row_here"] fun H Q nd hr h=>?_
 obtain ⟨pr,rs,rfl,hp,hR,hdp,hcn,k⟩:=h;refine ⟨_,(@aF _ _ _ _ _ (kC 1 nd (bQ cA))
  (@aF _ _ _ _ _ (nJ (fB (pv 0)) (eX 2 nd)
  (@aF _ _ _ _ _ (bO (dF cW (cU aZ (pv 2) aC) (@aR _ _ _ _ _ (@aA _ _ _ _ _ aG (@aA _ _ _ _ _ aG (@aA _ _ _ _ _ aG (@aA _ _ _ _ _ aG cA rfl) rfl) rfl) rfl))) (aE (bR (dG bb cm cp cH (pv 1) (aM (pv 2))))) aX)
  (@aF _ _ _ _ _ (bO (dF cW (cU aZ (pv 2) aC) (aR (aA aG (aM aG)))) (aE (bR (dG bb eg eo eI (pv 1) (aM (bU C_LTs hr (aM (cU aZ (pv 2) aC))))))) aX)
  (@aE _ _ _ (bO (dF cP (cU aZ (pv 2) aC) aG) (aE (bR (dG bb eg eo eI (pv 1) (aM (bU C_LTs hr (aM (cU aZ (pv 2) aC))))))) aX)))))
  (@aE _ _ _ (aO (pv 1))))),?_⟩
 refine ⟨bh _,fun lf hlf=>?_⟩;have s1:=aB hlf (.lst []);have g1:aN H lf (.lst []) lf=some (.lst (aQ (bF []))):=aD;generalize aN H lf (.lst [])=H1 at s1 g1 ⊢;refine ⟨_,rfl,pr,rfl,⟨_,bA.of (s1 _ _ hp)⟩,eQ (K:=K) (a:=pr) (xs:=aQ rs) (fun i σ G=>∃ v2:Option V,σ=[some (.ref pr),some (.ref lf),v2]/\aY H G/\G lf=some (.lst (aQ (bF (rs.take i))))) ⟨_,rfl,s1,g1⟩ (by rintro i σ G _ ⟨_,_,s,_⟩;exact bA.of (s _ _ hp)) ?_ ?_⟩
 ·rintro D' N i hN v σ G hv ⟨v2,rfl,s2,g2⟩;obtain ⟨r,rfl,hr'⟩:=jE hv;have mr:=ay hr';have hw:=iC.ts (.of s2) r (bI.mem hR r mr);have dr:=sN mr;have cr:=kK mr;have ez:bF (rs.take (i+1))=bF (rs.take i)++bF [r]:=by rw [bE hr',vA]
  have tl:=jG (rs.take i);have tk:=wB rs i;clear hv hr' mr
  cases r with
  |thr p x T a3 wss =>
   obtain ⟨us,hat⟩:=hw.at;refine ⟨_,rfl,p,_,_,.str T.wd,rfl,rfl,bA.of hat,yF _ _,by show 4<=sizeLine;decide,fun u1 hu1=>⟨u1,_,rfl,.inr (bA.of aD),rfl,rfl,_,rfl,bP (aJ9 T) ?_⟩⟩;have s3:=aB hu1 (.tup [.str "ladder",.str "flat",.str "choose",.str "first"]);have g3:=s3 _ _ g2;replace hat:=s3 _ _ hat;generalize aN G u1 (.tup [.str "ladder",.str "flat",.str "choose",.str "first"])=G3 at s3 g3 hat ⊢;refine ⟨_,rfl,.inl ⟨rfl,_,bH.of g3⟩,_,rfl,lf,_,_,rfl,rfl,g3,by rw [bN];exact fW (by omega),?_⟩;have e4:aQ (bF (rs.take i))++[V.ref (Rw.thr p x T a3 wss).p]=aQ (bF (rs.take (i+1))):=by rw [ez,yQ,fN];rfl
   rw [e4];have s4:=cM (ys:=aQ (bF (rs.take (i+1)))) (s2.trans s3) hlf;replace hat:=TS.lst (ys:=aQ (bF (rs.take (i+1)))) g3 _ _ hat;have g4:aN G3 lf (.lst (aQ (bF (rs.take (i+1))))) lf=_:=aD;generalize aN G3 lf (.lst (aQ (bF (rs.take (i+1)))))=G4 at s4 hat g4 ⊢;refine ⟨_,rfl,p,_,_,.str T.wd,rfl,rfl,bA.of hat,yF _ _,dW,fun u2 hu2=>⟨u2,_,rfl,.inr (bA.of aD),rfl,rfl,_,rfl,bC (by rw [aO2];decide) ?_⟩⟩;have s5:=aB hu2 (.tup [.str "when",.str "times"]);refine ⟨_,rfl,p,_,_,.str T.wd,rfl,rfl,bA.of (s5 _ _ hat),yF _ _,rfl,_,rfl,bC (fun z=>(yU T).1 (ao z)) ?_⟩;exact hN _ _ ⟨_,rfl,s4.trans s5,s5 _ _ g4⟩
  |lt p x t =>
   refine ⟨_,rfl,p,_,_,.str "let",rfl,rfl,bA.of hw.1,rfl,by show 4<=sizeLine;decide,fun u1 hu1=>⟨u1,_,rfl,.inr (bA.of aD),rfl,rfl,_,rfl,bC (by decide +kernel) ?_⟩⟩;have s3:=aB hu1 (.tup [.str "ladder",.str "flat",.str "choose",.str "first"]);refine ⟨_,rfl,p,_,_,.str "let",rfl,rfl,bA.of (s3 _ _ hw.1),rfl,dW,fun u2 hu2=>⟨u2,_,rfl,.inr (bA.of aD),rfl,rfl,_,rfl,bC (by decide +kernel) ?_⟩⟩;have s4:=s3.trans (aB hu2 (.tup [.str "when",.str "times"]));refine ⟨_,rfl,p,_,_,.str "let",rfl,rfl,bA.of (s4 _ _ hw.1),rfl,rfl,_,rfl,bC (by decide +kernel) ?_⟩;refine hN _ _ ⟨_,rfl,s2.trans s4,?_⟩;rw [ez,aL3,dm];exact s4 _ _ g2
  |tell p t =>
   refine ⟨_,rfl,p,_,_,.str "tell",rfl,rfl,bA.of hw.1,rfl,by show 4<=sizeLine;decide,fun u1 hu1=>⟨u1,_,rfl,.inr (bA.of aD),rfl,rfl,_,rfl,bC (by decide +kernel) ?_⟩⟩;have s3:=aB hu1 (.tup [.str "ladder",.str "flat",.str "choose",.str "first"]);refine ⟨_,rfl,p,_,_,.str "tell",rfl,rfl,bA.of (s3 _ _ hw.1),rfl,dW,fun u2 hu2=>⟨u2,_,rfl,.inr (bA.of aD),rfl,rfl,_,rfl,bC (by decide +kernel) ?_⟩⟩;have s4:=s3.trans (aB hu2 (.tup [.str "when",.str "times"]));refine ⟨_,rfl,p,_,_,.str "tell",rfl,rfl,bA.of (s4 _ _ hw.1),rfl,rfl,_,rfl,bC (by decide +kernel) ?_⟩;refine hN _ _ ⟨_,rfl,s2.trans s4,?_⟩;rw [ez,vP,dm];exact s4 _ _ g2
  |when p pa pb t a b =>
   cases n with
   |zero=>exact absurd dr (by simp only [kW];omega)
   |succ n =>
   have da:eM a<=n/\eM b<=n:=by simp only [kW] at dr;omega
   simp only [Rw.cnt] at cr;refine ⟨_,rfl,p,_,_,.str "when",rfl,rfl,bA.of hw.1,rfl,by show 4<=sizeLine;decide,fun u1 hu1=>⟨u1,_,rfl,.inr (bA.of aD),rfl,rfl,_,rfl,bC (by decide +kernel) ?_⟩⟩;have s3:=aB hu1 (.tup [.str "ladder",.str "flat",.str "choose",.str "first"]);refine ⟨_,rfl,p,_,_,.str "when",rfl,rfl,bA.of (s3 _ _ hw.1),rfl,dW,fun u2 hu2=>⟨u2,_,rfl,.inr (bA.of aD),rfl,rfl,_,rfl,bP (by decide +kernel) ?_⟩⟩;have s4:=s3.trans (aB hu2 (.tup [.str "when",.str "times"]));have hw4:=iC.ts (.of s4) _ hw;have g4:=s4 _ _ g2;generalize aN (aN G u1 (.tup [.str "ladder",.str "flat",.str "choose",.str "first"])) u2 (.tup [.str "when",.str "times"])=G4 at s4 hw4 g4 ⊢;obtain ⟨h1,_,h3,h4,h5,h6⟩:=id hw4;refine ⟨_,rfl,.inl ⟨rfl,_,bH.of g4⟩,_,rfl,p,_,_,.ref pa,rfl,rfl,bA.of h1,rfl,pa,a,rfl,h3,h5,da.1,by omega,fun la G5 s5 fa g5=>?_⟩;have e5:=s5 _ _ g4;have xl:=aj (jG a) (show cS a<=300 by omega)
   refine ⟨lf,la,_,_,rfl,rfl,e5,g5,cg (fW (by rw [bN,bN];omega)),?_⟩;rw [<- fN];have s6:=cM (ys:=aQ (bF (rs.take i)++bF a)) ((s2.trans s4).trans s5) hlf;have t6:=(TS.of s5).trans (TS.lst (ys:=aQ (bF (rs.take i)++bF a)) e5);have g6:aN G5 lf (.lst (aQ (bF (rs.take i)++bF a))) lf=_:=aD;generalize aN G5 lf (.lst (aQ (bF (rs.take i)++bF a)))=G6 at s6 t6 g6 ⊢;replace h1:=t6 _ _ h1;refine ⟨_,rfl,p,_,_,.str "when",rfl,rfl,bA.of h1,rfl,rfl,_,rfl,bP (ah rfl) ?_⟩;refine ⟨_,rfl,.inl ⟨rfl,_,bH.of g6⟩,_,rfl,p,_,_,.ref pb,rfl,rfl,bA.of h1,rfl,pb,b,rfl,t6 _ _ h4,bI.ts t6 _ h6,da.2,by omega,fun lb G7 s7 fb g7=>?_⟩;have e7:=s7 _ _ g6;have yl:=aj (jG b) (show cS b<=300 by omega);refine ⟨lf,lb,_,_,rfl,rfl,e7,g7,cg (fW (by rw [bN,bN,ap];omega)),?_⟩;refine hN _ _ ⟨_,rfl,cM (s6.trans s7) hlf,?_⟩;rw [aD,ez,xY, <- qt,fN (bF (rs.take i)++bF a)]
  |times p pb m b =>
   cases n with
   |zero=>exact absurd dr (by simp only [kW];omega)
   |succ n =>
   have da:eM b<=n:=by simp only [kW] at dr;omega
   simp only [Rw.cnt] at cr;refine ⟨_,rfl,p,_,_,.str "times",rfl,rfl,bA.of hw.1,rfl,by show 4<=sizeLine;decide,fun u1 hu1=>⟨u1,_,rfl,.inr (bA.of aD),rfl,rfl,_,rfl,bC (by decide +kernel) ?_⟩⟩;have s3:=aB hu1 (.tup [.str "ladder",.str "flat",.str "choose",.str "first"]);refine ⟨_,rfl,p,_,_,.str "times",rfl,rfl,bA.of (s3 _ _ hw.1),rfl,dW,fun u2 hu2=>⟨u2,_,rfl,.inr (bA.of aD),rfl,rfl,_,rfl,bP (by decide +kernel) ?_⟩⟩;have s4:=s3.trans (aB hu2 (.tup [.str "when",.str "times"]));have hw4:=iC.ts (.of s4) _ hw;have g4:=s4 _ _ g2;generalize aN (aN G u1 (.tup [.str "ladder",.str "flat",.str "choose",.str "first"])) u2 (.tup [.str "when",.str "times"])=G4 at s4 hw4 g4 ⊢;obtain ⟨h1,h3,h5⟩:=id hw4;refine ⟨_,rfl,.inl ⟨rfl,_,bH.of g4⟩,_,rfl,p,_,_,.ref pb,rfl,rfl,bA.of h1,rfl,pb,b,rfl,h3,h5,da,by omega,fun la G5 s5 fa g5=>?_⟩;have e5:=s5 _ _ g4;have xl:=aj (jG b) (show cS b<=300 by omega);refine ⟨lf,la,_,_,rfl,rfl,e5,g5,cg (fW (by rw [bN,bN];omega)),?_⟩
   rw [<- fN];have s6:=cM (ys:=aQ (bF (rs.take i)++bF b)) ((s2.trans s4).trans s5) hlf;have t6:=(TS.of s5).trans (TS.lst (ys:=aQ (bF (rs.take i)++bF b)) e5);have g6:aN G5 lf (.lst (aQ (bF (rs.take i)++bF b))) lf=_:=aD;generalize aN G5 lf (.lst (aQ (bF (rs.take i)++bF b)))=G6 at s6 t6 g6 ⊢;replace h1:=t6 _ _ h1;refine ⟨_,rfl,p,_,_,.str "times",rfl,rfl,bA.of h1,rfl,rfl,_,rfl,bC (by decide +kernel) ?_⟩;refine hN _ _ ⟨_,rfl,s6,?_⟩;rw [ez,uN];exact g6
 ·rintro σ G ⟨v2,rfl,s2,g2⟩;rw [bN,br] at g2;exact ⟨_,rfl,k lf G s2 hlf g2⟩
theorem aL1 (m_isinstance:mg "isinstance"=none) (m_int:mg "int"=none) (m_bool:mg "bool"=none):eU P w K mg base "_law_whole" "_law_whole" aR6 1 ["_law_found"] spWhL:=by
 refine gZ ["_law_found"] fun H Q nd hr h=>?_
 obtain ⟨n,rfl,k⟩:=h;refine ⟨_,(aE (aO (oQ (lY dU m_isinstance eu (aA (pv 0) (aM (jJ (v:= .ty "int") (by rfl) m_int gx rfl)))) (oP (aJ4 (lY dU m_isinstance eu (aA (pv 0) (aM (jJ (v:= .ty "bool") (by rfl) m_bool PyProof.Rows.boot_bool rfl))))))))),?_⟩;exact ⟨_,rfl,_,_,_,true,rfl,.int n,rfl,_,rfl,bP rfl ⟨_,rfl,_,_,_,false,rfl,.int n,rfl,_,rfl,k _ (.refl _)⟩⟩
theorem aD0 (C_LWh:Cl P w K mg base 1 spWhL "_law_whole") (m_isinstance:mg "isinstance"=none) (m_tuple:mg "tuple"=none):eU P w K mg base "_law_are_tuples" "_law_are_tuples" aU1 2 ["_law_some"] spATu:=by
 refine gZ ["_law_some","_law_one"] fun H Q nd hr h=>?_
 obtain ⟨a,css,rfl,ha,hl,hc,k⟩:=h;refine ⟨_,(aF (nJ (fB (pv 0)) (eX 1 nd)
  (aE (bO (PW.pt (lS (nO (lH (lY dU m_isinstance eu (aA (pv 1) (aM (jJ (v:= .ty "tuple") (by rfl) m_tuple cz rfl)))))) (jW (dF cW aU0 (cJ ["_law_number"] [none] (fB (pv 1)) (fun _ _ _ _=>(eX 0)) (fun _ _ _ _=>dL) (fun _ _ _ _=>(bU C_LWh hr (aM (pv 0))))))))) eG aX)))
  (aE (aO (lY dU m_isinstance eu (aA (pv 0) (aM (jJ (v:= .ty "tuple") (by rfl) m_tuple cz rfl))))))),?_⟩
 obtain ⟨vs,h1,tw⟩:=ha;have vl:=tw.length;refine ⟨_,rfl,a,rfl,⟨_,bA.of h1⟩,eQ (K:=K) (a:=a) (xs:=vs) (fun i σ G=>∃ v1:Option V,σ=[some (.ref a),v1]/\aY H G) ⟨_,rfl,.refl _⟩ (by rintro i σ G _ ⟨_,_,s⟩;exact bA.of (s _ _ h1)) ?_ ?_⟩
 ·rintro D' N i hN v σ G hv ⟨v1,rfl,s1⟩;obtain ⟨c,hc',q,rfl,hq⟩:=jI tw hv;have c3:=hc c (ay hc');have hq1:=s1 _ _ hq;refine ⟨_,rfl,_,_,_,true,rfl,.tup hq1,rfl,_,rfl,bC (by decide) ?_⟩;refine ⟨_,rfl,q,rfl,⟨_,bA.of hq1⟩,lP (K:=K) (a:=q) (xs:=c.map V.int) (fun i ys σ G3=>aY G G3/\(∃ v,σ=[v])/\ys=List.replicate i (V.bl true)) (aU (by rw [ac];omega)) ⟨.refl _,⟨_,rfl⟩,rfl⟩
   (by rintro i ys σ G3 ⟨_,_,rfl⟩;rw [gw];exact ae _) (by rintro i ys σ G3 _ ⟨s3,_⟩;exact bA.of (s3 _ _ hq1)) ?_ ?_⟩
  ·rintro i y ys σ G3 hy ⟨s3,⟨v',rfl⟩,rfl⟩;obtain ⟨n,rfl,hn⟩:=eV hy;exact ⟨_,rfl,n,rfl,fun G4 s4=>⟨s3.trans s4,⟨_,rfl⟩,by rw [oo]⟩⟩
  rintro ys σ G3 ⟨s3,_,rfl⟩ l3 hl3;refine ⟨l3,_,rfl,.inl (bH.of aD),rfl,qR _,_,rfl,bC (by rw [xG];decide) ?_⟩;exact hN _ _ ⟨_,rfl,s1.trans (s3.trans (aB hl3 _))⟩
 ·rintro σ G ⟨v1,rfl,s1⟩;exact ⟨_,rfl,_,_,_,true,rfl,.tup (s1 _ _ h1),rfl,k G s1⟩
theorem aJ0 (C_LTs:Cl P w K mg base 5 (rT 4) "_law_throws") (C_LSm:Cl P w K mg base 1 spLSm "_law_sums") (m_range:mg "range"=none) (m_tuple:mg "tuple"=none) (m_len:mg "len"=none) (m_int:mg "int"=none) (m_max:mg "max"=none) (m_min:mg "min"=none):eU P w K mg base "_law_tops" "_law_tops" aR8 6 ["_law_program_here"] spLTo:=by
 refine gZ ["_law_program_here","_law_found","_law_kind","_law_top","_law_row_here","_law_low","_law_high","_law_weights","_law_count","_law_here"] fun H Q nd hr h=>?_
 obtain ⟨p,ks,rs,rfl,P0,k⟩:=h;refine ⟨_,(cQ 1 nd (bQ cA)
  (aF (nJ (bV (by rfl) m_range (aM (lY cC m_len gj (aM (cU aZ (pv 0) aC))))) (eX 2 nd)
  (cQ 3 nd aC
  (aF (nJ (dE (bU C_LTs hr (aM (cU aZ (pv 0) aC)))) (eX 4 nd)
  (aF (wO (i:=5) (j:=6) rfl nd rfl rfl (by decide) rfl rfl (aA (cU aZ (pv 4) (wC rP aC)) (aM (aJ cL (cU aZ (pv 4) sQ) (uS jQ m_int gx (aM (pec cP (cU aZ (pv 4) aC) aG)))))) rfl)
  (aE (nJ (fB (bU C_LSm hr (aM (pv 4)))) (eX 7 nd)
  (aE (nJ (bV (by rfl) m_range (aM aC)) (eX 8 nd)
  (cQ 9 nd (lY (hJ rfl) m_max gy (aA (pv 5) (aM (lY (fG rfl) m_min ge (aA (pv 6) (aM (aJ fS (pv 8) (cU aZ (pv 7) (pv 2)))))))))
  (aE (bO (dF aN1 (pv 9) (lY (hJ rfl) m_max gy (aA (pv 5) (aM (lY (fG rfl) m_min ge (aA (pv 6) (aM (aJ fS (aJ aW (pv 8) aC) (cU aZ (pv 7) (pv 2)))))))))) (aE (kC 3 nd (lY (hJ rfl) m_max gy (aA (pv 3) (aM (aJ aW (pv 8) aC)))))) aX)))))))))
  (aE (bR (dG bb cm cp cH (pv 1) (aM (pv 3))))))))
  (aE (aO (uS bX m_tuple cz (aM (pv 1))))))),?_⟩
 obtain ⟨pk,pr,hp,hk,hpr⟩:=P0.ex;have k3:=P0.k3;have tl:(bF rs).length<=300:=aj (jG rs) P0.cnt;have rH:bI H (cE rs):=bI.flat rs P0.rows;have en:(((ks.map V.str).length:Nat):Int).toNat=ks.length:=by rw [ac];rfl
 refine ⟨bh _,fun lf hlf=>?_⟩;have s1:=aB hlf (.lst []);have g1:aN H lf (.lst []) lf=some (.lst (((List.range 0).map (wA rs)).map V.int)):=aD;generalize aN H lf (.lst [])=H1 at s1 g1 ⊢;refine ⟨_,rfl,p,_,_,.ref pk,rfl,rfl,bA.of (s1 _ _ hp),rfl,pk,_,rfl,.inr (bA.of (s1 _ _ hk)),(ks.map V.str).length,rfl,by omega,by rw [ac];omega,fX (n:=(((ks.map V.str).length:Nat):Int).toNat) (fun i σ G=>∃ v2 v3 v4 v5 v6 v7 v8 v9:Option V,σ=[some (.ref p),some (.ref lf),v2,v3,v4,v5,v6,v7,v8,v9]/\aY H G/\G lf=some (.lst (((List.range i).map (wA rs)).map V.int)))
  ⟨_,_,_,_,_,_,_,_,rfl,s1,g1⟩ ?_ ?_⟩
 ·rintro D' N i hN σ G hi ⟨v2,v3,v4,v5,v6,v7,v8,v9,rfl,s2,g2⟩;rw [en] at hi;refine ⟨_,rfl,p,_,_,.ref pr,rfl,rfl,bA.of (s2 _ _ hp),rfl,pr,rs,rfl,s2 _ _ hpr,bI.ts (.of s2) _ P0.rows,P0.dep,P0.cnt,fun lt H2 s3 flt h2=>⟨lt,rfl,⟨_,bH.of h2⟩,?_⟩⟩;refine fJ (K:=K) (a:=lt) (xs:=aQ (bF rs)) (fun j σ G'=>∃ v4 v5 v6 v7 v8 v9:Option V,σ=[some (.ref p),some (.ref lf),some (.int (0+i)),some (.int (iA (((bF rs).take j).map (tR i)))),v4,v5,v6,v7,v8,v9]/\aY H2 G') ⟨_,_,_,_,_,_,rfl,.refl _⟩ (by rintro j σ G' _ ⟨_,_,_,_,_,_,_,s⟩;exact bH.of (s _ _ h2)) ?_ ?_
  ·rintro D2 N2 j hN2 v σ G' hv ⟨v4,v5,v6,v7,v8,v9,rfl,s4⟩;obtain ⟨r,rfl,hr'⟩:=jE hv;have hm:=ay hr';have hw:=iC.ts (.of (s2.trans (s3.trans s4))) r (rH.mem r (de.mp hm).1);obtain ⟨q,x,T,a3,wss,rfl,ok,l1,l4,hws⟩:=P0.th r hm;obtain ⟨xs,hx,x0,_,xl,xh⟩:=hw.1.t.v;obtain ⟨lo0,lh,h9⟩:=ok.lo0;have t0:=nK (((bF rs).take j).map (tR i));have hi9:∃ hv,jH xs (-1)=some (.int hv)/\hv - (if decide (V.str T.wd=V.str "first")=true then 1 else 0)=T.hb:=by
    by_cases c:T.wd="first"
    ·rw [bj c] at xh;exact ⟨_,xh,by rw [c,bj (ah rfl)];omega⟩
    ·rw [ar c] at xh;exact ⟨_,xh,by rw [ar (fun z=>c (by have z:=ao z;injection z))];omega⟩
   obtain ⟨hv,xh2,eh⟩:=hi9;refine ⟨_,rfl,_,rfl,q,_,_,_,rfl,rfl,bA.of hx,xl,_,rfl,q,_,_,_,rfl,rfl,bA.of hx,xh2,_,rfl,q,_,_,_,rfl,rfl,bA.of hx,x0,rfl,.inr ⟨_,rfl,_,_,rfl,rfl,_,_,rfl,?_⟩⟩
   dsimp only
   have eh:hv - (if decide (V.str T.wd=V.str "first")=true then 1 else 0)=T.hb:=eh;rw [eh];refine ⟨_,rfl,q,x,T,a3,wss,rfl,hw,fun sm G3 s5 hs5=>?_⟩;obtain ⟨vs,hvs,tw⟩:=hs5;have vl:=tw.length;refine ⟨sm,rfl,⟨_,bA.of hvs⟩,eQ (K:=K) (a:=sm) (xs:=vs) (fun m σ G2=>∃ v7 v8 v9:Option V,σ=[some (.ref p),some (.ref lf),some (.int (0+i)),some (.int (((wss.take m).map fun ws=>iD T.lo T.hb (ws.getD i 0)).foldl mx (iA (((bF rs).take j).map (tR i))))),some (.ref q),some (.int T.lo),some (.int T.hb),v7,v8,v9]/\G2=G3) ⟨_,_,_,rfl,rfl⟩ (by rintro m σ G2 _ ⟨_,_,_,_,e⟩;rw [e];exact bA.of hvs) ?_ ?_⟩
   ·rintro D3 N3 m hN3 v σ G2 hv' ⟨v7,v8,v9,rfl,rfl⟩;obtain ⟨ws,hw1,w,rfl,hw2⟩:=jI tw hv';obtain ⟨wl,wb⟩:=hws ws (ay hw1);have ea:jH (ws.map V.int) (0+(i:Int))=some (.int (ws.getD i 0)):=by rw [jt];exact xU (by omega)
    have wm:ws.getD i 0∈ws:=by rw [fm,bp (by omega)];exact ia _
    obtain ⟨w0,w3⟩:=wb _ wm;have tn:0<=((wss.take m).map fun ws=>iD T.lo T.hb (ws.getD i 0)).foldl mx (iA (((bF rs).take j).map (tR i))):=by rw [hU _ _ t0];have:=(lU (a:=iA (((bF rs).take j).map (tR i))) (b:=iA ((wss.take m).map fun ws=>iD T.lo T.hb (ws.getD i 0)))).1;omega
    have sn:((wss.take (m+1)).map fun ws=>iD T.lo T.hb (ws.getD i 0)).foldl mx (iA (((bF rs).take j).map (tR i)))=mx (((wss.take m).map fun ws=>iD T.lo T.hb (ws.getD i 0)).foldl mx (iA (((bF rs).take j).map (tR i)))) (iD T.lo T.hb (ws.getD i 0)):=by rw [bE hw1,az,jb];rfl
    rw [<- (xM lo0 lh h9 w0 w3).1, <- nE _ _ _ _ _ tn] at sn;generalize ((wss.take m).map fun ws=>iD T.lo T.hb (ws.getD i 0)).foldl mx (iA (((bF rs).take j).map (tR i)))=tt at sn tn;generalize ws.getD i 0=u at ea w0 w3 sn;refine ⟨10,rfl,by decide,by decide,fX (n:=10) (fun c σ G4=>∃ v8 v9:Option V,σ=[some (.ref p),some (.ref lf),some (.int (0+i)),some (.int (kH T.lo T.hb u c tt)),some (.ref q),some (.int T.lo),some (.int T.hb),some (.ref w),v8,v9]/\G4=G2) ⟨_,_,rfl,rfl⟩ ?_ ?_⟩
    ·rintro D4 N4 c hN4 σ G4 hc ⟨v8,v9,rfl,rfl⟩;refine ⟨_,rfl,_,rfl,_,rfl,_,rfl,_,rfl,w,_,_,_,rfl,rfl,bA.of hw2,ea,_,_,rfl,rfl,.inr ⟨by omega,by omega⟩,_,_,rfl,_,_,rfl,?_⟩;refine ⟨_,rfl,_,rfl,_,rfl,_,rfl,_,_,rfl,rfl,_,rfl,_,rfl,w,_,_,_,rfl,rfl,bA.of hw2,ea,_,_,rfl,rfl,.inr ⟨by omega,by omega⟩,_,_,rfl,_,_,rfl,rfl,_,rfl,?_⟩;rw [show (0+(c:Int))=(c:Int) from jt _]
     by_cases cc:lV T.lo T.hb ((c:Int) * u)=lV T.lo T.hb (((c:Int)+1) * u)
     ·refine bC (fun z=>?_) (hN4 _ _ ⟨some (.int c),some (.int (lV T.lo T.hb ((c:Int) * u))),?_,rfl⟩)
      ·have z:(!decide (V.int (lV T.lo T.hb ((c:Int) * u))=V.int (lV T.lo T.hb (((c:Int)+1) * u))))=true:=z;rw [cc,ah rfl] at z
       cases z
      ·rw [show kH T.lo T.hb u (c+1) tt=kH T.lo T.hb u c tt from ar (fun z=>z cc)];rfl
     ·have nz:(!decide (V.int (lV T.lo T.hb ((c:Int) * u))=V.int (lV T.lo T.hb (((c:Int)+1) * u))))=true:=by rw [bo (fun z=>cc (by injection z))];rfl
      refine bP nz ⟨_,rfl,_,rfl,_,_,rfl,rfl,_,_,rfl,hN4 _ _ ⟨some (.int c),some (.int (lV T.lo T.hb ((c:Int) * u))),?_,rfl⟩⟩;rw [show kH T.lo T.hb u (c+1) tt=mx (kH T.lo T.hb u c tt) ((c:Int)+1) from bj cc];rfl
    ·rintro σ G4 ⟨v8,v9,rfl,rfl⟩;refine hN3 _ _ ⟨some (.ref w),v8,v9,?_,rfl⟩;rw [sn]
   ·rintro σ G2 ⟨v7,v8,v9,rfl,rfl⟩;rw [vl,br,vZ wss t0];refine hN2 _ _ ⟨some (.ref q),some (.int T.lo),some (.int T.hb),v7,v8,v9,?_,s4.trans s5⟩;rw [bE hr',az,df,ky,vM (((bF rs).take j).map (tR i))];rfl
  ·rintro σ G' ⟨v4,v5,v6,v7,v8,v9,rfl,s4⟩;rw [bN,br];have s6:=s3.trans s4;have g6:=s6 _ _ g2;refine ⟨_,rfl,.inl ⟨rfl,_,bH.of g6⟩,_,rfl,lf,_,_,rfl,rfl,g6,by rw [ac,ac,fg];exact aU (by omega),?_⟩;refine hN _ _ ⟨_,_,_,_,_,_,_,_,rfl,cM (s2.trans s6) hlf,?_⟩;rw [aD,ju,az,az];rfl
 ·rintro σ G ⟨v2,v3,v4,v5,v6,v7,v8,v9,rfl,s2,g2⟩;rw [en] at g2;exact ⟨_,rfl,lf,_,rfl,.inl ⟨bH.of g2,fun t ht=>k t _ (s2.trans (aB ht _)) aD⟩⟩
theorem aI3 {cN:Addr}(C_LPt:Cl P w K mg base 1 (vQ K) "_law_pot") (C_LPg:Cl P w K mg base 26 spPrgP "_law_program") (C_LTo:Cl P w K mg base 6 spLTo "_law_tops") (C_Tps:Cl P w K mg base 6 spTops "tops") (C_LCr:Cl P w K mg base 1 spLCr "_law_crowds") (C_AlC:kZ P w K mg base 7 (pI cN) "all_crowds" [.int 400]) (A_AlC:kZ P w K mg base 7 (pI cN) "all_crowds" []) (C_Draw:Cl P w K mg base 1 spDrawP "_law_draw") (C_ATu:Cl P w K mg base 2 spATu "_law_are_tuples") (C_Rfd:Cl P w K mg base 10 spRfd "_law_refused") (m_isinstance:mg "isinstance"=none) (m_list:mg "list"=none) (m_tuple:mg "tuple"=none) (m_range:mg "range"=none):eU P w K mg base "law" "law" uY 27 ["_law_script"] (sI K):=by
 refine gZ ["_law_script","_law_pot_here","_law_program_here","_law_due","_law_found","_law_many","_law_top","_law_crowds_here","_law_told","_law_some"] fun H Q nd hr h=>?_
 obtain ⟨a,ns,rfl,hS,hlen,k⟩:=h;have hr1:cF 1 _:=hr.mono (by decide);refine ⟨_,(@aF _ _ _ _ _ (kC 1 nd (bU C_LPt hr (aA (pv 0) (aM aC))))
  (@aF _ _ _ _ _ (kC 2 nd (bU C_LPg hr (aA (pv 1) (aA aC (aA aC (aM (cU bT (@bQ _ _ _ _ (@aA _ _ _ _ _ aC (@aA _ _ _ _ _ aC (@aA _ _ _ _ _ aC (@aA _ _ _ _ _ aC cA rfl) rfl) rfl) rfl)) (bU C_Draw hr (aA (pv 1) (aM aC))))))))))
  (@aF _ _ _ _ _ (kC 3 nd (bU C_LTo hr (aM (pv 2))))
  (@aF _ _ _ _ _ (kC 4 nd (bU C_Tps hr (aM (pv 2))))
  (@aF _ _ _ _ _ (bO (PW.pt (lS (nO (lH (bU C_ATu hr (aM (aR (aM (pv 4))))))) (jW (dF (aH2 hr) (pv 4) (pv 3))))) eG aX)
  (@aF _ _ _ _ _ (kC 5 nd aC)
  (@aF _ _ _ _ _ (nJ (fB (pv 3)) (eX 6 nd)
  (aE (kC 5 nd (aJ fS (pv 5) (aJ aW (pv 6) aC)))))
  (@aF _ _ _ _ _ (bO (dF fA (pv 5) aC) (aE (aO (oQ (pec (qW hr) (cJ ["_law_way","_law_program_here"] [none,some 2] (bV (by rfl) m_range (aM aC)) (fun _ _ _ _=>(eX 0)) (fun _ _ _ _=>dL) (fun _ _ _ _=>(bU C_Rfd hr (aA (pv 1) (aM (pv 0)))))) (bQ (aA aC (aA aC (aM aC))))) (oP (pec (vV hr) (bU C_Tps hr (aM (pv 2))) (pv 3)))))) aX)
  (@aF _ _ _ _ _ (kC 7 nd (bU C_LCr hr (aM (pv 3))))
  (@aF _ _ _ _ _ (kC 8 nd (bQ (aA (jY C_AlC hr gY (aM (pv 2))) (aA (jY A_AlC hr gY (aA (pv 2) (aM (pv 5)))) (aM (jY A_AlC hr gY (aA (pv 2) (aM aC))))))))
  (@aF _ _ _ _ _ (nJ (dE (pv 8)) (eX 9 nd)
  (aE (bO (PW.pt (lS (nO (lH (lY dU m_isinstance eu (aA (pv 9) (aM (jJ (v:= .ty "list") (by rfl) m_list jg rfl)))))) (lS (dF (xH hr) (pv 9) (pv 7)) (jW (nO (lH (bU C_ATu hr (aM (uS bX m_tuple cz (aM (pv 9))))))))))) eG aX)))
  (@aF _ _ _ _ _ (bR (dG bb cm cp cH (cU bT (pv 8) aC) (aM (aR cA))))
  (@aE _ _ _ (aO (oQ (pec (qW hr) (jY C_AlC hr gY (aM (pv 2))) (pv 7)) (oP (pec (vV hr) (bU C_Tps hr (aM (pv 2))) (pv 3)))))))))))))))))),?_⟩
 refine ⟨_,rfl,a,ns,rfl,hS,hlen,fun p l H1 D1 s1=>?_⟩;refine ⟨_,rfl,by show 4<=sizeLine;decide,fun l0 hl0=>?_⟩;obtain ⟨n1,n2⟩:=dC D1 hl0;have s2:=aB hl0 (.lst [.int 9,.int 9,.int 4,.int 2]);have h2:aN H1 l0 (.lst [.int 9,.int 9,.int 4,.int 2]) l0=some (.lst [.int 9,.int 9,.int 4,.int 2]):=aD;have D2:=D1.same s2;generalize aN H1 l0 (.lst [.int 9,.int 9,.int 4,.int 2])=H2 at s2 h2 D2 ⊢;refine ⟨_,rfl,p,l,4,rfl,D2,by decide,by decide,fun z H3 z0 z1 D3 o3=>?_⟩;obtain ⟨hg,hat,hg2,hg9⟩:∃ hg,jH [V.int 9,V.int 9,V.int 4,V.int 2] z=some (.int hg)/\2<=hg/\hg<=9:=by
  have:z=0\/z=1\/z=2\/z=3:=by omega
  rcases this with rfl | rfl | rfl | rfl
  ·exact ⟨9,rfl,by decide,by decide⟩
  ·exact ⟨9,rfl,by decide,by decide⟩
  ·exact ⟨4,rfl,by decide,by decide⟩
  ·exact ⟨2,rfl,by decide,by decide⟩
 refine ⟨l0,_,_,.int hg,rfl,rfl,bH.of (cG h2 n1 n2 o3),hat,p,l,hg,rfl,hg2,hg9,D3,fun pg kt pr ks xs rs H4 e1 e2 k1 k3 e3 e4 P D4 o4=>?_⟩;have PG:sY H4 pg ks rs:=P.pgh e1 e2 e3 e4 k1 k3;clear e1 e2 e3 e4 D4 o4 o3 D3 D2 D1 s1 s2 h2;refine ⟨_,rfl,pg,ks,rs,rfl,PG,fun td H5 s5 t5=>?_⟩;replace PG:=PG.ts (.of s5);refine ⟨_,rfl,pg,ks,rs,rfl,PG,fun tf H6 s6 t6=>?_⟩;replace PG:=PG.ts (.of s6);replace t5:=s6 _ _ t5;have tb:=wG PG.th;have tl3:(cX rs ks.length).length<=3:=by rw [pG];exact PG.k3
 have co:=sE _ tb;refine ⟨_,rfl,iY,fun q hq=>?_⟩;have s7:=aB hq (.tup [.ref tf]);have h7:gX (aN H6 q (.tup [.ref tf])) q [cX rs ks.length]:=⟨_,aD,⟨tf,rfl,s7 _ _ t6⟩,trivial⟩
 replace PG:=PG.ts (.of s7);replace t5:=s7 _ _ t5;replace t6:=s7 _ _ t6;generalize aN H6 q (.tup [.ref tf])=H7 at s7 h7 PG t5 t6 ⊢;refine ⟨q,_,rfl,h7,by show 1<=1000;decide,(fun c hc=>by rw [cq.mp hc];exact tl3),fun H8 s8=>⟨_,rfl,bC (by decide) ?_⟩⟩;replace PG:=PG.ts (.of s8);replace t5:=s8 _ _ t5;replace t6:=s8 _ _ t6;refine ⟨_,rfl,_,rfl,tf,td,_,_,rfl,rfl,bA.of t6,bA.of t5,_,rfl,bC (by rw [ah rfl];decide) ?_⟩;clear h7 s7 s8 s5 s6;refine ⟨_,rfl,td,rfl,⟨_,bA.of t5⟩,eQ (K:=K) (a:=td) (xs:=(cX rs ks.length).map V.int) (fun i σ G=>∃ v6:Option V,σ=[some (.ref a),some (.ref p),some (.ref pg),some (.ref td),some (.ref tf),some (.int (mD ((cX rs ks.length).take i))),v6,none,none,none]/\G=H8) ⟨_,rfl,rfl⟩ (by rintro i σ G _ ⟨_,_,e⟩;rw [e];exact bA.of t5) ?_ ?_⟩
 ·rintro D' N i hN v σ G hv ⟨v6,rfl,rfl⟩;obtain ⟨lim,rfl,hlim⟩:=eV hv;obtain ⟨b0,b9⟩:=tb lim (ay hlim);refine ⟨_,rfl,_,rfl,_,_,rfl,rfl,_,_,rfl,rfl,.inr ⟨by omega,by omega⟩,?_⟩;refine hN _ _ ⟨some (.int lim),?_,rfl⟩;rw [bE hlim,iX];rfl
 rintro σ H8 ⟨v6,rfl,rfl⟩;rw [ac,br];refine ⟨_,rfl,_,_,rfl,rfl,_,rfl,?_⟩
 by_cases c:400 < mD (cX rs ks.length)
 ·refine bP (ah c) ?_;refine ⟨3,rfl,by decide,by decide,cV (n:=3) (fun i ys σ G=>aY H8 G/\(∃ v,σ=[v,some (.ref pg)])/\ys=List.replicate i (V.int 400)) (aU (by decide)) ⟨.refl _,⟨_,rfl⟩,rfl⟩ (by rintro i ys σ G ⟨_,_,rfl⟩;rw [gw];exact ae _) ?_ ?_⟩
  ·rintro i ys σ G hi ⟨s9,⟨v,rfl⟩,rfl⟩;exact ⟨_,rfl,_,rfl,pg,_,ks,rs,rfl,PG.ts (.of s9),c,fun G2 s10=>⟨s9.trans s10,⟨_,rfl⟩,by rw [oo]⟩⟩
  rintro ys σ G ⟨s9,_,rfl⟩ la hla;have s10:=s9.trans (aB hla (.lst (List.replicate 3 (V.int 400))));refine ⟨by show 3<=sizeLine;decide,fun lb hlb=>?_⟩;have s11:=s10.trans (aB hlb (.lst [V.int 400,V.int 400,V.int 400]));refine ⟨.list [.int 400,.int 400,.int 400],.list [.int 400,.int 400,.int 400],⟨la,_,rfl,bH.of ((aB hlb _) _ _ aD),⟨_,_,rfl,rfl,_,_,rfl,rfl,_,_,rfl,rfl,rfl⟩⟩,⟨lb,_,rfl,bH.of aD,⟨_,_,rfl,rfl,_,_,rfl,rfl,_,_,rfl,rfl,rfl⟩⟩,rfl,rfl,rfl,_,rfl,bP (by decide +kernel) ?_⟩;refine ⟨_,rfl,pg,ks,rs,rfl,PG.ts (.of s11),fun tg H12 s12 t12=>?_⟩;refine ⟨_,rfl,tg,td,_,_,rfl,rfl,bA.of t12,bA.of ((s11.trans s12) _ _ t5),?_⟩;rw [ah rfl];exact k _
 refine bC (by simpa using c) ?_;refine ⟨_,rfl,td,(cX rs ks.length),rfl,t5,tl3,tb,fun lc H9 s9 flc hc9=>?_⟩;replace PG:=PG.ts (.of s9);refine ⟨_,rfl,pg,400,ks,rs,rfl,PG,(fun _ r1 G1 u1 f1 c1=>?_),(fun z=>absurd z (by omega))⟩;refine ⟨_,rfl,_,rfl,pg,_,ks,rs,rfl,PG.ts (.of u1),(fun _ r2 G2 u2 f2 c2=>?_),(fun z=>absurd z (by omega))⟩;refine ⟨_,rfl,pg,400,ks,rs,rfl,(PG.ts (.of u1)).ts (.of u2),(fun _ r3 G3 u3 f3 c3=>?_),(fun z=>absurd z (by omega))⟩;refine ⟨by show 3<=sizeLine;decide,fun lt hlt=>?_⟩;have nlc:lc≠r1:=by obtain ⟨_,e,_⟩:=hc9;exact aK e f1
 have u4:=aB hlt (.lst [.ref r1,.ref r2,.ref r3]);have h4:aN G3 lt (.lst [.ref r1,.ref r2,.ref r3]) lt=some (.lst [.ref r1,.ref r2,.ref r3]):=aD;have sA:=u1.trans (u2.trans (u3.trans u4));have cs:∀ {G G':Hp}{r:Addr},aY G G'->jZ G r (iS (cX rs ks.length))->jZ G' r (iS (cX rs ks.length)):=fun s h=>let ⟨vs,e,t⟩:=h;⟨vs,s _ _ e,t.mono fun _ _ z=>dH.ts (.of s) z⟩
 replace c1:=cs (u2.trans (u3.trans u4)) c1;replace c2:=cs (u3.trans u4) c2;replace c3:=cs u4 c3;have c9:=cs sA hc9;have t9:=sA _ _ (s9 _ _ t5);replace PG:=PG.ts (.of sA);generalize aN G3 lt (.lst [.ref r1,.ref r2,.ref r3])=G4 at h4 sA c1 c2 c3 c9 t9 PG ⊢;clear u1 u2 u3 u4 hlt s9 hc9 t5 t6;have cx:∀ v∈[V.ref r1,.ref r2,.ref r3],∃ r,v= .ref r/\jZ G4 r (iS (cX rs ks.length)):=by
  intro v hv;simp only [List.mem_cons,List.not_mem_nil,or_false] at hv;rcases hv with rfl | rfl | rfl
  ·exact ⟨_,rfl,c1⟩
  ·exact ⟨_,rfl,c2⟩
  ·exact ⟨_,rfl,c3⟩
 have eqc:∀ {G:Hp}{r r':Addr},jZ G r (iS (cX rs ks.length))->jZ G r' (iS (cX rs ks.length))->kJ K G (yK (iS (cX rs ks.length))) (.ref r)/\kJ K G (yK (iS (cX rs ks.length))) (.ref r'):=fun ⟨vs,e,t⟩ ⟨vs',e',t'⟩=>⟨⟨_,_,rfl,bH.of e,oN t⟩,⟨_,_,rfl,bH.of e',oN t'⟩⟩
 refine ⟨_,rfl,lt,rfl,⟨_,bH.of h4⟩,fJ (K:=K) (a:=lt) (xs:=[.ref r1,.ref r2,.ref r3]) (fun i σ G=>∃ v9:Option V,σ=[some (.ref a),some (.ref p),some (.ref pg),some (.ref td),some (.ref tf),some (.int (mD (cX rs ks.length))),v6,some (.ref lc),some (.ref lt),v9]/\aY G4 G) ⟨_,rfl,.refl _⟩ (by rintro i σ G _ ⟨_,_,s⟩;exact bH.of (s _ _ h4)) ?_ ?_⟩
 ·rintro D' N i hN v σ G hv ⟨v9,rfl,s10⟩;obtain ⟨r,rfl,cr⟩:=cx v (ay hv);replace cr:=cs s10 cr;obtain ⟨q1,q2⟩:=eqc cr (cs s10 c9);obtain ⟨vs,hr,tw⟩:=id cr;refine ⟨_,rfl,_,_,_,true,rfl,.lst hr,rfl,_,rfl,bC (by decide) ?_⟩;refine ⟨_,rfl,_,rfl,_,_,q1,q2,hI _,hI _,lA _,_,rfl,bC (by show ¬ ((!Spec.same _ _)=true);rw [nk];decide) ?_⟩;refine ⟨_,rfl,r,_,rfl,.inl ⟨bH.of hr,fun tq htq=>?_⟩⟩;have s11:=aB htq (.tup vs);refine ⟨tq,iS (cX rs ks.length),rfl,⟨vs,aD,tw.mono fun _ _ z=>dH.ts (.of s11) z⟩,?_,fun c hc=>?_,fun G6 s12=>⟨_,rfl,bC (by decide) ?_⟩⟩
  ·exact aj co.l (aj (gi (by decide) tl3) (by decide))
  ·rw [co.c c hc];exact tl3
  exact hN _ _ ⟨_,rfl,s10.trans (s11.trans s12)⟩
 rintro σ G ⟨v9,rfl,s10⟩;obtain ⟨vs1,hr1,tw1⟩:=cs s10 c1;have vl1:=tw1.length;have cl1:(iS (cX rs ks.length)).length<=1000:=aj co.l (aj (gi (by decide) tl3) (by decide));refine ⟨_,rfl,lt,_,_,.ref r1,rfl,rfl,bH.of (s10 _ _ h4),rfl,.inl ⟨rfl,_,bH.of hr1⟩,bh _,fun t0 ht0=>?_⟩;have s11:=s10.trans (aB ht0 (.tup []));have hr1':=(aB ht0 (.tup [])) _ _ hr1;refine ⟨r1,_,_,rfl,rfl,hr1',fW (by omega),?_⟩;have ts5:=(TS.of s11).trans (TS.lst (ys:=vs1++[.ref t0]) hr1');have c7:jZ (aN (aN G t0 (.tup [])) r1 (.lst (vs1++[.ref t0]))) lc (iS (cX rs ks.length)):=by
  obtain ⟨vs9,e9,w9⟩:=cs s11 c9;exact ⟨vs9,(aH nlc).trans e9,w9.mono fun _ _ z=>dH.ts (TS.lst hr1') z⟩
 replace PG:=PG.ts ts5;replace t9:=ts5 _ _ t9;generalize aN (aN G t0 (.tup [])) r1 (.lst (vs1++[.ref t0]))=G7 at c7 PG t9 ⊢;refine ⟨_,rfl,pg,400,ks,rs,rfl,PG,(fun _ r5 G8 u8 f8 c8=>?_),(fun z=>absurd z (by omega))⟩;obtain ⟨q1,q2⟩:=eqc c8 (cs u8 c7);refine ⟨_,rfl,_,_,q1,q2,hI _,hI _,lA _,_,rfl,bP (by show Spec.same _ _=true;rw [nk]) ?_⟩;refine ⟨_,rfl,pg,ks,rs,rfl,PG.ts (.of u8),fun tg H12 s12 t12=>?_⟩;refine ⟨_,rfl,tg,td,_,_,rfl,rfl,bA.of t12,bA.of ((u8.trans s12) _ _ t9),?_⟩;rw [ah rfl];exact k _
theorem zQ (m_len:mg "len"=none):eU P w K mg base "_law_draw" "_law_draw" aB5 1 ["_law_pot_here","_law_many"] spDrawP:=by
 refine gZ ["_law_pot_here","_law_many","_law_digit","_law_one"] fun H Q nd hr h=>?_
 obtain ⟨p,l,m,rfl,D,m0,m1,k⟩:=h;refine ⟨_,(aF (gK gp (PW.pt (gE (dF cP (cU bT (pv 0) aC) aC) (eY (dF fA (lY cC m_len gj (aM (cU bT (pv 0) aC))) aC))))
  (aE (jS (dG bb oe og xB (cU bT (pv 0) aC) (aM aC)) (qS (pv 0) aC lN))))
  (aF (bO (dF fA (cU bT (pv 0) aC) aC) (cQ 2 nd (aJ fC (cU bT (pv 0) aC) (pv 1))
  (aF (jS (aJ gP (cU bT (pv 0) aC) (pv 1)) (qS (pv 0) aC lN))
  (aE (aO (pv 2))))) aX)
  (cQ 3 nd (aJ fC (aJ aW (aJ jF (cU bT (pv 0) aC) aC) aC) aC)
  (aF (jS (aJ aW (aJ fC (aJ aW (aJ jF (pv 3) aC) aC) aC) aC) (qS (pv 0) aC lN))
  (aE (aO (aJ fC (aJ gP (aJ aW (aJ jF (aJ fC (aJ jF (pv 3) (pv 3)) aC) aC) (cU bT (pv 0) aC)) aC) (pv 1)))))))),?_⟩
 obtain ⟨sd0,n0,ls0,D0⟩:=D;refine ⟨fun j σ G=>∃ (sd n:Int) (ls:List Int),σ=[some (.ref p),some (.int m),none,none]/\eN G p l sd n ls/\Out p l H G/\j=ls.length,⟨_,sd0,n0,ls0,rfl,D0,.refl _,rfl⟩,?_⟩;rintro j σ G ⟨sd,n,ls,rfl,D,o,rfl⟩;refine ⟨_,rfl,p,_,_,.int n,rfl,rfl,bH.of D.pc,rfl,rfl,_,rfl,?_⟩
 by_cases c:n=0
 ·refine bP (by rw [c];exact ah rfl) ?_;refine ⟨_,rfl,p,_,_,.ref l,rfl,rfl,bH.of D.pc,rfl,l,_,rfl,.inl (bH.of D.lc),_,_,rfl,rfl,_,rfl,?_⟩
  cases ls with
  |cons x ls =>
   refine bP (by simp) ?_;refine ⟨fun σ' G'=>∃ (sd n:Int) (ls':List Int),σ'=[some (.ref p),some (.int m),none,none]/\eN G' p l sd n ls'/\Out p l H G'/\ls'.length < (x :: ls).length,(by rintro σ' G' ⟨a,b,d,e1,e2,e3,e4⟩;exact ⟨_,e4,a,b,d,e1,e2,e3,rfl⟩),?_⟩;have x0:=D.l0 x bg;refine ⟨_,rfl,p,_,_,.ref l,rfl,rfl,bH.of D.pc,rfl,.inl ⟨rfl,_,bH.of D.lc⟩,l,_,0,0,.int x,rfl,rfl,D.lc,by decide,by decide,mq (by decide) (by simp),rfl,?_⟩;have D1:=D.left (ls':=ls) fun y hy=>D.l0 y (aq _ hy)
   refine ⟨_,rfl,p,_,1,1,rfl,rfl,D1.pc,rfl,?_⟩;exact ⟨sd,x,ls,rfl,D1.number x0,(o.trans .upd_l).trans .upd_d,by simp⟩
  |nil =>
   refine bC (by simp) ?_;refine ⟨_,rfl,p,_,_,.int n,rfl,rfl,bH.of D.pc,rfl,_,_,rfl,rfl,_,rfl,bC (by rw [c];simp) ?_⟩;have s0:=D.s0;have s1:=D.s1;have bs:eT 64 sd:=eT.of s0 (by omega);refine ⟨_,rfl,p,_,_,.int sd,rfl,rfl,bH.of D.pc,rfl,_,_,rfl,rfl,⟨64,64,bs,by unfold eT;decide,by decide,by decide⟩,_,_,rfl,rfl,_,_,rfl,rfl,(show (0:Int) < 2147483647 by decide),?_⟩;have a0:=gr (sd * 48271+7919) (show (2147483647:Int)≠0 by decide);have a1:=gb (sd * 48271+7919) (show (0:Int) < 2147483647 by decide);obtain ⟨x,ex⟩:∃ x,x=(sd * 48271+7919) % 2147483647:=⟨_,rfl⟩
   rw [<- ex] at a0 a1;have bx:eT 64 x:=eT.of a0 (by omega);rw [ex] at bx;refine ⟨_,rfl,_,_,rfl,rfl,⟨64,64,bx,by unfold eT;decide,by decide,by decide⟩,_,_,rfl,rfl,_,_,rfl,rfl,(show (0:Int) < 2147483399 by decide),_,_,rfl,rfl,?_⟩;have b0:=gr ((sd * 48271+7919) % 2147483647 * 40692+12345) (show (2147483399:Int)≠0 by decide);have b1:=gb ((sd * 48271+7919) % 2147483647 * 40692+12345) (show (0:Int) < 2147483399 by decide);refine ⟨_,rfl,p,_,0,0,rfl,rfl,D.pc,rfl,?_⟩;have D2:=D.seed (v:=((sd * 48271+7919) % 2147483647 * 40692+12345) % 2147483399+1) (by omega) (by omega);have c0:=gr ((sd * 48271+7919) % 2147483647 * ((sd * 48271+7919) % 2147483647)) (show (2147483629:Int)≠0 by decide);have c1:=gb ((sd * 48271+7919) % 2147483647 * ((sd * 48271+7919) % 2147483647)) (show (0:Int) < 2147483629 by decide);refine ⟨_,rfl,_,rfl,_,_,rfl,rfl,⟨64,64,bx,bx,by decide,by decide⟩,_,_,rfl,rfl,(show (0:Int) < 2147483629 by decide),_,_,rfl,rfl,⟨64,64,eT.of c0 (by omega),by unfold eT;decide,by decide,by decide⟩,_,rfl,p,_,_,.int _,rfl,rfl,bH.of D2.pc,rfl,_,_,rfl,rfl,_,_,rfl,rfl,⟨(show (0:Int) < 64 by decide),64,by unfold eT;decide,by decide⟩,_,rfl,_,_,rfl,rfl,m0,?_⟩
   exact k _ _ (gr _ (by omega)) (gb _ m0) ⟨_,_,_,D2⟩ (o.trans .upd_d)
 ·have np:0 < n:=by have:=D.n0;omega
  refine bC (fun z=>c (by have z:=ao z;injection z)) ?_;refine ⟨_,rfl,p,_,_,.int n,rfl,rfl,bH.of D.pc,rfl,_,_,rfl,rfl,_,rfl,bP (ah np) ?_⟩;refine ⟨_,rfl,p,_,_,.int n,rfl,rfl,bH.of D.pc,rfl,_,rfl,_,_,rfl,rfl,m0,?_⟩;refine ⟨_,rfl,p,_,_,.int n,rfl,rfl,bH.of D.pc,rfl,_,rfl,_,_,rfl,rfl,⟨m0,64,eT.of (by omega) m1,by decide⟩,_,rfl,p,_,1,1,rfl,rfl,D.pc,rfl,?_⟩;exact ⟨_,rfl,k _ _ (gr _ (by omega)) (gb _ m0) ⟨_,_,_,D.number (mh D.n0 (by omega))⟩ (o.trans .upd_d)⟩
theorem aI6 (C_Draw:Cl P w K mg base 1 spDrawP "_law_draw") (m_tuple:mg "tuple"=none) (m_range:mg "range"=none):eU P w K mg base "_law_sum" "_law_sum" aS0 2 ["_law_pot_here","_law_many"] spSumP:=by
 refine gZ ["_law_pot_here","_law_many"] fun H Q nd hr h=>?_
 obtain ⟨p,l,n,rfl,D,n0,n1,k⟩:=h;refine ⟨_,(aE (aO (uS bX m_tuple cz (aM (cJ ["_law_k","_law_pot_here"] [none,some 0] (bV (by rfl) m_range (aM (pv 1))) (fun _ _ _ _=>(eX 0)) (fun _ _ _ _=>dL) (fun _ _ _ _=>(bU C_Draw hr (aA (pv 1) (aM (cU (aW3 K) (bQ (aA aC (aA aC (aM aC)))) (bU C_Draw hr (aA (pv 1) (aM aC))))))))))))),?_⟩;refine ⟨_,rfl,n,rfl,by omega,by omega,cV (fun i ys σ H2=>fZ H2 p l/\Out p l H H2/\(∃ v,σ=[v,some (.ref p)])/\∃ ws:List Int,ys=ws.map V.int/\ws.length=i/\∀ x∈ws,0<=x/\x<=3) (aU (by omega)) ⟨D,Out.refl H,⟨_,rfl⟩,[],rfl,rfl,fun _ z=>nomatch z⟩
  (by rintro i ys σ H2 ⟨_,_,_,zs,e,e2,_⟩;rw [e,ac];omega) ?_ ?_⟩
 ·rintro i ys σ H2 hi ⟨D2,o2,⟨v,rfl⟩,ws,rfl,hl,h1⟩;refine ⟨_,rfl,by show 3<=sizeLine;decide,fun ll hll=>?_⟩;have n2:=dC D2 hll;have s3:=aB hll (.lst [.int 2,.int 2,.int 4]);have g3:aN H2 ll (.lst [.int 2,.int 2,.int 4]) ll=_:=aD;have D3:=D2.same s3;generalize aN H2 ll (.lst [.int 2,.int 2,.int 4])=H3 at s3 g3 D3 ⊢;refine ⟨_,rfl,p,l,3,rfl,D3,by decide,by decide,fun r H4 r0 r1 D4 o4=>?_⟩;obtain ⟨v4,hv,v2,v3⟩:=aV1 r0 r1;refine ⟨ll,_,r,.int v4,rfl,rfl,bH.of (o4 _ _ g3 n2.1 n2.2),hv,p,l,v4,rfl,D4,by omega,by omega,fun x H5 x0 x1 D5 o5=>?_⟩;refine ⟨D5,o2.trans ((Out.of s3).trans (o4.trans o5)),⟨_,rfl⟩,ws++[x],by rw [az];rfl,by rw [ap,hl];rfl,fun z hz=>?_⟩;rcases dj.mp hz with q | q
  ·exact h1 z q
  ·rw [cq.mp q];omega
 ·rintro ys σ H2 ⟨D2,o2,_,ws,rfl,hl,h1⟩ q hq;exact ⟨q,_,rfl,.inl ⟨bH.of aD,fun u hu'=>k u ws _ aD hl h1 (D2.same ((aB hq _).trans (aB hu' _))) (o2.trans (Out.of ((aB hq _).trans (aB hu' _))))⟩⟩
theorem aF9 (m_range:mg "range"=none):eU P w K mg base "_law_again" "_law_again" aT1 1 ["_law_number","_law_many"] spAgain:=by
 refine gZ ["_law_number","_law_many","_law_found","_law_k"] fun H Q nd hr h=>?_
 obtain ⟨a,n,rfl,ha,hn,k⟩:=h;refine ⟨_,(cQ 2 nd aC
  (aF (nJ (bV (by rfl) m_range (aM (pv 1))) (eX 3 nd)
  (aE (kC 2 nd (aJ jF (pv 2) (pv 0)))))
  (aE (aO (pv 2))))),?_⟩
 refine ⟨_,rfl,n,rfl,by omega,by omega,iL (n:=n) (fun i σ G=>G=H/\i<=n/\∃ v3,σ=[some (.int a),some (.int n),some (.int ((a ^ i:Nat):Int)),v3]) ⟨rfl,bh _,_,rfl⟩ ?_ ?_⟩
 ·rintro D' i σ G hi ⟨rfl,_,v3,rfl⟩;have b1:eT 400 ((a ^ i:Nat):Int):=by
   unfold eT;rw [Int.natAbs_natCast];exact cw (oz ha i) (cw (gi (by decide) (show i<=60 by omega)) (by decide +kernel))
  refine ⟨_,rfl,_,rfl,_,_,rfl,rfl,⟨400,400,b1,eT.of (Int.natCast_nonneg _) (by have:(64:Int) < 2 ^ 400:=(by decide +kernel);generalize (2:Int) ^ 400=x at *;omega),by decide,by decide⟩,rfl,hi,some (.int (0+i)),?_⟩;rw [qh,ml];rfl
 ·rintro σ G ⟨rfl,_,v3,rfl⟩;exact ⟨_,rfl,k _ (.refl _)⟩
theorem aL4 (C_Draw:Cl P w K mg base 1 spDrawP "_law_draw") (m_range:mg "range"=none) (m_max:mg "max"=none):eU P w K mg base "_law_steep" "_law_steep" aR0 2 ["_law_pot_here","_law_least"] spSteepP:=by
 refine gZ ["_law_pot_here","_law_least","_law_q","_law_p","_law_by"] fun H Q nd hr h=>?_
 obtain ⟨p,l,t,rfl,D,k⟩:=h;refine ⟨_,(cQ 2 nd (aJ aW aC (bU C_Draw hr (aA (pv 0) (aM aC))))
  (cQ 3 nd (kO (jK (dF cP (pv 1) aC) (aJ aW aC (bU C_Draw hr (aA (pv 0) (aM (lY (hJ rfl) m_max gy (aA aC (aM (aJ gP (pv 2) aC)))))))) (aJ aW aC (bU C_Draw hr (aA (pv 0) (aM (aJ cL (pv 2) aC)))))))
  (aF (nJ (tE (by rfl) m_range (aA aC (aM aC))) (eX 4 nd)
  (aE (gK gp (PW.pt (gE (dF cP (aJ fC (pv 3) (pv 4)) aC) (eY (dF cP (aJ fC (pv 2) (pv 4)) aC))))
  (aE (wO (i:=3) (j:=2) rfl nd rfl rfl (by decide) rfl rfl (aA (aJ gP (pv 3) (pv 4)) (aM (aJ gP (pv 2) (pv 4)))) rfl)))))
  (aE (aO (aR (aA (pv 3) (aM (pv 2))))))))),?_⟩
 refine ⟨_,rfl,p,l,8,rfl,D,by decide,by decide,fun r H1 r0 r1 D1 o1=>⟨_,_,rfl,rfl,?_⟩⟩;refine ⟨fun v G=>∃ x:Int,v= .int x/\1<=x/\x < 2+r/\(t=2->2 * x<=2+r)/\fZ G p l/\Out p l H G,?_,?_⟩
 ·refine ⟨_,rfl,rfl,_,rfl,?_⟩
  by_cases c:t=2
  ·refine bP (by rw [c];exact ah rfl) ?_;refine ⟨_,rfl,_,rfl,_,_,rfl,rfl,⟨(show (0:Int) < 2 by decide),64,by unfold eT;decide,by decide⟩,1,_,rfl,p,l,_,rfl,D1,?_,?_,fun s H2 s0 s1 D2 o2=>⟨_,_,rfl,rfl,1+s,rfl,by omega,?_,fun _=>?_,D2,o1.trans o2⟩⟩
   all_goals
    have q1:1<=(2+r) / 2:=by omega
    have q2:(if (2+r) / 2 > 1 then (2+r) / 2 else 1)=(2+r) / 2:=by split <;> omega
   ·show 0 < (if (2+r) / 2 > 1 then (2+r) / 2 else 1);rw [q2];omega
   ·show (if (2+r) / 2 > 1 then (2+r) / 2 else 1) < _;rw [q2];omega
   ·have s1:s < (if (2+r) / 2 > 1 then (2+r) / 2 else 1):=s1;rw [q2] at s1;omega
   ·have s1:s < (if (2+r) / 2 > 1 then (2+r) / 2 else 1):=s1;rw [q2] at s1;omega
  ·refine bC (fun z=>c (by have z:=ao z;injection z)) ?_;refine ⟨_,rfl,_,rfl,_,_,rfl,rfl,p,l,_,rfl,D1,by show 0 < 2+r - 1;omega,by show 2+r - 1 < _;omega,fun s H2 s0 s1 D2 o2=>⟨_,_,rfl,rfl,1+s,rfl,by omega,?_,fun z=>absurd z c,D2,o1.trans o2⟩⟩;have s1:s < 2+r - 1:=s1;omega
 ·rintro v G ⟨x,rfl,x1,x2,x3,D2,o2⟩;refine ⟨2,9,rfl,⟨by decide,by decide,by decide,by decide⟩,iL (n:=7) (fun i σ G'=>∃ (a b:Int) (v4:Option V),σ=[some (.ref p),some (.int t),some (.int b),some (.int a),v4]/\G'=G/\iG a b/\(t=2->2 * a<=b)) ⟨x,2+r,_,rfl,rfl,⟨x1,x2,by omega⟩,x3⟩ ?_ ?_⟩
  ·rintro D' i σ G' hi ⟨a,b,v4,rfl,rfl,st,ha⟩;refine ⟨fun j σ G2=>∃ (a b:Int),σ=[some (.ref p),some (.int t),some (.int b),some (.int a),some (.int (2+i))]/\G2=G'/\iG a b/\(t=2->2 * a<=b)/\j=a.toNat,⟨_,a,b,rfl,rfl,st,ha,rfl⟩,?_⟩;rintro j σ G2 ⟨a,b,rfl,rfl,st,ha,rfl⟩;have kp:(0:Int) < 2+i:=by omega
   have kb:eT 64 (2+(i:Int)):=eT.of (by omega) (by omega);refine ⟨_,rfl,_,rfl,_,_,rfl,rfl,kp,rfl,_,rfl,?_⟩
   by_cases c1:a % (2+i)=0
   ·refine bP (ah (ee V.int c1)) ?_;refine ⟨_,rfl,_,rfl,_,_,rfl,rfl,kp,rfl,_,rfl,?_⟩
    by_cases c2:b % (2+i)=0
    ·refine bP (ah (ee V.int c2)) ?_;obtain ⟨d1,d2,d3⟩:=uJ (by omega) c1 c2 st;have p1:=st.p1;refine ⟨fun σ' G3=>∃ (a' b':Int),σ'=[some (.ref p),some (.int t),some (.int b'),some (.int a'),some (.int (2+i))]/\G3=G2/\iG a' b'/\(t=2->2 * a'<=b')/\a'.toNat < a.toNat,(by rintro σ' G3 ⟨a',b',e1,e2,e3,e4,e5⟩;exact ⟨_,e5,a',b',e1,e2,e3,e4,rfl⟩),?_⟩;have p2:=d1.p1;refine ⟨_,rfl,_,rfl,_,_,rfl,rfl,⟨kp,64,kb,by decide⟩,_,rfl,_,rfl,_,_,rfl,rfl,⟨kp,64,kb,by decide⟩,?_⟩;exact ⟨_,_,rfl,a / (2+i),b / (2+i),rfl,rfl,d1,fun z=>d3 (ha z),by omega⟩
    ·refine bC (fun z=>c2 (by have z:=ao z;injection z)) ?_;exact ⟨a,b,_,rfl,rfl,st,ha⟩
   ·refine bC (fun z=>c1 (by have z:=ao z;injection z)) ?_;exact ⟨a,b,_,rfl,rfl,st,ha⟩
  ·rintro σ G' ⟨a,b,v4,rfl,rfl,st,ha⟩;exact ⟨_,rfl,_,rfl,dW,fun u hu'=>k u a b _ aD st ha (D2.same (aB hu' _)) (o2.trans (.of (aB hu' _)))⟩
theorem aH5 (C_Agn:Cl P w K mg base 1 spAgain "_law_again"):eU P w K mg base "_law_few" "_law_few" aQ5 2 ["_law_scene"] spFew:=by
 refine gZ ["_law_scene","_law_many"] fun H Q nd hr h=>?_
 obtain ⟨sc,nl,kn,rw,rn,hg,n,rfl,hs,n27,r1,r30,k⟩:=h;have hu:=kU hr;refine ⟨_,(cQ 1 nd aC
  (aF (gK gp (PW.pt (gE (dF kD (pv 1) aC) (eY (dF aB6 (bU C_Agn hr (aA (aJ aW (pv 1) aC) (aM (nC hu (pv 0) aG)))) (nC hu (pv 0) aG)))))
  (aE (kC 1 nd (aJ aW (pv 1) aC))))
  (aE (aO (pv 1))))),?_⟩
 refine ⟨fun j σ G=>∃ m:Nat,σ=[some (.ref sc),some (.int m)]/\aY H G/\1<=m/\m<=6/\((m ^ n:Nat):Int)<=rn/\j=6 - m,⟨_,1,rfl,.refl _,ae _,by decide,by rw [Nat.one_pow];exact r1,rfl⟩,?_⟩;rintro j σ G ⟨m,rfl,s,m1,m6,hm,rfl⟩;refine ⟨_,rfl,_,_,rfl,rfl,_,rfl,?_⟩
 by_cases c:(m:Int) < 6
 ·refine bP (ah c) ?_;have gA:eK G sc (.str "again") (some (.int n)):=by rw [<- kX (kn:=kn) (rw:=rw) (ag:=n) (rn:=rn) (hg:=hg) (nl:=nl)];exact eK.k (k:=Sum.inr "again") (s _ _ hs)
  refine ⟨_,rfl,_,_,rfl,rfl,_,rfl,sc,_,rfl,gA,m+1,n,by rw [lz];rfl,by omega,by omega,fun G1 s1=>?_⟩;have gR:eK G1 sc (.str "runs") (some (.int rn)):=by rw [<- nI (kn:=kn) (rw:=rw) (ag:=n) (rn:=rn) (hg:=hg) (nl:=nl)];exact eK.k (k:=Sum.inr "runs") (s1 _ _ (s _ _ hs))
  refine ⟨_,rfl,sc,_,rfl,gR,_,_,rfl,rfl,_,rfl,?_⟩
  by_cases c2:(((m+1) ^ n:Nat):Int)<=rn
  ·refine bP (ah c2) ?_;refine ⟨fun σ' G'=>∃ m':Nat,σ'=[some (.ref sc),some (.int m')]/\aY H G'/\1<=m'/\m'<=6/\((m' ^ n:Nat):Int)<=rn/\6 - m' < 6 - m,(by rintro σ' G' ⟨m',e1,e2,e3,e4,e5,e6⟩;exact ⟨_,e6,m',e1,e2,e3,e4,e5,rfl⟩),?_⟩;exact ⟨_,rfl,_,_,rfl,rfl,m+1,by rw [lz];rfl,s.trans s1,by omega,by omega,c2,by omega⟩
  ·refine bC (by simpa using c2) ?_;exact ⟨_,rfl,k m _ (s.trans s1) m1 m6 hm⟩
 ·refine bC (by simpa using c) ?_;exact ⟨_,rfl,k m _ s m1 m6 hm⟩
theorem aE2 (C_Draw:Cl P w K mg base 1 spDrawP "_law_draw") (m_min:mg "min"=none):eU P w K mg base "_law_bounds" "_law_bounds" aV2 2 ["_law_pot_here","_law_scene","_law_many"] spBnd:=by
 refine gZ ["_law_pot_here","_law_scene","_law_many","_law_low"] fun H Q nd hr h=>?_
 obtain ⟨p,l,sc,nl,hg,kn,rw,ag,rn,m,rfl,D,hs,h2,h9,m1,m2,k⟩:=h;have hu:=kU hr;refine ⟨_,(cQ 2 nd (lY (fG rfl) m_min ge (aA (pv 2) (aM (aJ aW (nC hu (pv 1) aG) aC))))
  (cQ 3 nd (bU C_Draw hr (aA (pv 0) (aM (aJ cL (aJ aW (nC hu (pv 1) aG) aC) (pv 2)))))
  (aE (aO (aR (aA (pv 3) (aM (aJ cL (aJ aW (pv 3) (pv 2)) aC)))))))),?_⟩
 have gH:eK H sc (.str "high") (some (.int hg)):=by rw [<- rX (kn:=kn) (rw:=rw) (ag:=ag) (rn:=rn) (hg:=hg) (nl:=nl)];exact eK.k (k:=Sum.inr "high") hs
 refine ⟨_,rfl,_,rfl,sc,_,rfl,gH,_,_,rfl,rfl,m,hg+1,rfl,?_⟩;have u1:1<=(if hg+1 < m then hg+1 else m):=by split <;> omega
 have u2:(if hg+1 < m then hg+1 else m)<=hg+1:=by split <;> omega
 refine ⟨_,rfl,_,rfl,sc,_,rfl,gH,_,_,rfl,rfl,_,rfl,_,_,rfl,rfl,p,l,_,rfl,D,?_,?_,fun x H1 x0 x1 D1 o1=>?_⟩
 ·show 0 < hg+2 - (if hg+1 < m then hg+1 else m);omega
 ·show hg+2 - (if hg+1 < m then hg+1 else m) < _;omega
 have x1:x < hg+2 - (if hg+1 < m then hg+1 else m):=x1;refine ⟨_,rfl,_,rfl,_,rfl,_,_,rfl,rfl,_,_,rfl,rfl,dW,fun r hr'=>?_⟩;exact k r x (x+(if hg+1 < m then hg+1 else m) - 1) _ aD x0 (by omega) rfl (D1.same (aB hr' _)) (o1.trans (.of (aB hr' _)))
theorem aK8 (n:Nat) (C_Draw:Cl P w K mg base 1 spDrawP "_law_draw") (C_Trm:Cl P w K mg base (n+1) (vK n) "_law_term") (m_len:mg "len"=none):eU P w K mg base "_law_term" "_law_term" aM6 (n+1+1) ["_law_pot_here","_law_names_here","_law_room"] (vK (n+1)):=by
 refine gZ ["_law_pot_here","_law_names_here","_law_room","_law_form","_law_wide","_law_one"] fun H Q nd hr h=>?_
 obtain ⟨p,l,nh,ns,room,rfl,D,hk,n1,n2,l3,r1,r2,r12,k⟩:=h;refine ⟨_,(cQ 3 nd (bU C_Draw hr (aA (pv 0) (aM aC)))
  (aF (bO (fV (PW.pt (lS (dF kD (pv 2) aC) (jW (dF kD (pv 3) aC))))) (aF (bO (fV (PW.pt (gE (dF fA (lY cC m_len gj (aM (pv 1))) aC) (eY (dF fA (bU C_Draw hr (aA (pv 0) (aM aC))) aC))))) (aE (aO (aR (aA aG (aM (cU bT (pv 1) (bU C_Draw hr (aA (pv 0) (aM (lY cC m_len gj (aM (pv 1)))))))))))) aX)
  (aE (aO (aR (aA aG (aM (bU C_Draw hr (aA (pv 0) (aM (cU bT (bQ (aA aC (aA aC (aM aC)))) (bU C_Draw hr (aA (pv 0) (aM aC))))))))))))) aX)
  (cQ 4 nd (aJ aW aC (bU C_Draw hr (aA (pv 0) (aM (aJ cL (pv 2) aC)))))
  (cQ 5 nd (bU C_Trm hr (aA (pv 0) (aA (pv 1) (aM (pv 4)))))
  (aE (aO (aR (aA aG (aA (cU qK aG (bU C_Draw hr (aA (pv 0) (aM aC)))) (aA (pv 5) (aM (bU C_Trm hr (aA (pv 0) (aA (pv 1) (aM (aJ cL (aJ cL (pv 2) aC) (pv 4))))))))))))))))),?_⟩
 refine ⟨_,rfl,p,l,4,rfl,D,by decide,by decide,fun fo H1 f0 f1 D1 o1=>?_⟩;have hk1:=cG hk n1 n2 o1;refine ⟨fun b G=>G=H1/\(b=false->3<=room),?_,?_⟩
 ·refine ⟨_,rfl,_,_,rfl,rfl,_,rfl,?_⟩
  by_cases c1:room < 3
  ·exact bP (ah c1) ⟨rfl,(fun z=>nomatch z)⟩
  ·exact bC (by simpa using c1) ⟨_,rfl,_,_,rfl,rfl,_,rfl,rfl,fun _=>by omega⟩
 rintro b G ⟨rfl,hb⟩
 cases b with
 |false =>
  refine bC (by simp) ?_;have c1:=hb rfl
  cases n with
  |zero=>exact absurd c1 (by omega)
  |succ n =>
  refine ⟨_,rfl,_,rfl,_,_,rfl,rfl,p,l,room - 2,rfl,D1,by omega,by omega,fun x H2 x0 x1 D2 o2=>⟨_,_,rfl,rfl,?_⟩⟩;have hk2:=cG hk1 n1 n2 o2;refine ⟨_,rfl,_,rfl,_,rfl,p,l,nh,ns,1+x,rfl,D2,hk2,n1,n2,l3,by omega,by omega,by omega,fun t1 H3 D3 o3 h3 nm3 sz3 ok3=>?_⟩;have hk3:=cG hk2 n1 n2 o3;refine ⟨_,rfl,p,l,5,rfl,D3,by decide,by decide,fun y H4 y0 y1 D4 o4=>?_⟩;obtain ⟨c,hc,hs⟩:=aH1 y0 y1;have hk4:=cG hk3 n1 n2 o4;refine ⟨_,y,c,rfl,rfl,by decide,hc,_,rfl,_,rfl,_,rfl,_,rfl,_,_,rfl,rfl,_,rfl,_,_,rfl,rfl,p,l,nh,ns,room - 1 - (1+x),rfl,D4,hk4,n1,n2,l3,by omega,by omega,by omega,fun t2 H5 D5 o5 h5 nm5 sz5 ok5=>⟨by show 4<=sizeLine;decide,fun q hq=>?_⟩⟩;have s6:=aB hq (.tup [.str "op",.str ⟨#[c]⟩,.ref t1.p,.ref t2.p]);have t15:=(D3.ts o4).trans ((D4.ts o5).trans (.of s6));refine k (.op q ⟨#[c]⟩ t1 t2) _ (D5.same s6) (o1.trans (o2.trans (o3.trans (o4.trans (o5.trans (.of s6)))))) ⟨aD,h3.ts t15,h5.ts (.of s6)⟩ (fun z hz=>?_) ?_ ⟨hs,ok3,ok5⟩
  ·rcases dj.mp hz with q | q
   ·exact nm3 z q
   ·exact nm5 z q
  ·simp only [Tm.size];omega
 |true =>
  refine bP rfl ?_;refine ⟨fun b G'=>fZ G' p l/\Out p l H G'/\(b=true->0 < ns.length),?_,?_⟩
  ·refine ⟨_,rfl,nh,_,rfl,.inl (bH.of hk1),_,_,rfl,rfl,_,rfl,?_⟩
   by_cases c:(0:Int) < ((ns.map V.str).length:Int)
   ·refine bP (ah c) ⟨_,rfl,p,l,4,rfl,D1,by decide,by decide,fun x H2 x0 x1 D2 o2=>⟨_,_,rfl,rfl,_,rfl,D2,o1.trans o2,fun _=>by rw [ac] at c;omega⟩⟩
   ·exact bC (by simpa using c) ⟨D1,o1,(fun z=>nomatch z)⟩
  rintro b G2 ⟨D2,o2,hb2⟩;have hk2:=cG hk n1 n2 o2
  cases b with
  |true =>
   have kp:=hb2 rfl;refine bP rfl ?_;refine ⟨_,rfl,_,rfl,_,rfl,nh,_,rfl,.inl (bH.of hk2),p,l,_,rfl,D2,by rw [ac];omega,by rw [ac];omega,fun x H3 x0 x1 D3 o3=>?_⟩;obtain ⟨v,hv,ha⟩:=qZ x0 x1;obtain ⟨y,rfl,hy⟩:=kP hv;refine ⟨nh,_,_,.str y,rfl,rfl,bH.of (cG hk2 n1 n2 o3),ha,dW,fun q hq=>?_⟩;have s4:=aB hq (.tup [.str "name",.str y]);refine k (.nam q y) _ (D3.same s4) (o2.trans (o3.trans (.of s4))) aD (fun z hz=>?_) (by simp only [Tm.size];omega) trivial;rw [cq.mp hz];exact ay hy
  |false =>
   refine bC (by simp) ?_;refine ⟨_,rfl,by show 3<=sizeLine;decide,fun l0 hl0=>?_⟩;obtain ⟨m1,m2⟩:=dC D2 hl0;obtain ⟨H3,e0,s3,h3⟩:=yZ hl0 (.lst [.int 2,.int 4,.int 1000]);rw [e0];clear e0;refine ⟨_,rfl,p,l,3,rfl,D2.same s3,by decide,by decide,fun x H4 x0 x1 D4 o4=>?_⟩;obtain ⟨w,hw,hc⟩:=jV (x:=2) (y:=4) (z:=1000) x0 x1;refine ⟨l0,_,_,.int w,rfl,rfl,bH.of (cG h3 m1 m2 o4),hw,p,l,w,rfl,D4,by omega,by omega,fun y H5 y0 y1 D5 o5=>⟨dW,fun q hq=>?_⟩⟩;have s6:=aB hq (.tup [.str "num",.int y]);exact k (.num q y) _ (D5.same s6) (o2.trans ((Out.of s3).trans (o4.trans (o5.trans (.of s6))))) aD (fun z hz=>absurd hz fq) (by simp only [Tm.size];omega) ⟨y0,by omega⟩
theorem aE3  : eU P w K mg base "_law_pot" "_law_pot" aR9 1 ["_law_script","_law_base"] (vQ K):=by
 refine gZ ["_law_script","_law_base","_law_seed","_law_left","_law_cell"] fun H Q nd hr h=>?_
 obtain ⟨a,ns,rfl,hS,hl,k⟩:=h;refine ⟨_,(cQ 2 nd (aJ aW (aJ fS aC (pv 1)) aC)
  (cQ 3 nd (bQ cA)
  (aF (nJ (dE (xP zC (pv 0) (sX (pv 1)) (sX aC))) (eX 4 nd)
  (cQ 2 nd (aJ fC (aJ aW (aJ aW (aJ fS (pv 2) aC) (aJ fC (pv 4) aC)) aC) aC)
  (aE (bO (dF aM5 (pv 4) (aJ aE6 aC aC)) (aE (bR (dG bb cm cp cH (pv 3) (aM (pv 4))))) aX))))
  (aE (aO (bQ (aA (pv 2) (aA aC (aM (pv 3)))))))))),?_⟩
 refine ⟨_,rfl,_,_,rfl,rfl,.inl ⟨by decide,by decide⟩,_,_,rfl,rfl,?_⟩;refine ⟨bh _,fun fl hfl=>?_⟩;obtain ⟨H1,e0,s1,g1⟩:=yZ hfl (.lst []);rw [e0];clear e0;obtain ⟨ms,em,hms⟩:=wW ns (some 0) (some 63);refine ⟨_,rfl,_,rfl,_,rfl,_,rfl,a,_,rfl,s1.seq hS,fun p1 np1=>?_⟩;have n1:p1≠fl:=(aK g1 np1).symm;have s2:=aB np1 (.lst (oG (ns.map V.int) (some 0) (some 63)));have hp1:aN H1 p1 (.lst (oG (ns.map V.int) (some 0) (some 63))) p1=some (.lst (ms.map V.int)):=by rw [em];exact aD
 generalize aN H1 p1 (.lst (oG (ns.map V.int) (some 0) (some 63)))=H2 at s2 hp1 ⊢;refine ⟨p1,rfl,⟨_,bH.of hp1⟩,fJ (K:=K) (a:=p1) (xs:=ms.map V.int) (fun i σ G=>∃ (x:Int) (ls:List Int) (v:Option V),σ=[some (.ref a),some (.int 0),some (.int x),some (.ref fl),v]/\0<=x/\x < 2147483647/\G p1=some (.lst (ms.map V.int))/\G fl=some (.lst (ls.map V.int))/\ls.length<=i/\(∀ x∈ls,0<=x)/\aY H G)
  ⟨_,[],none,rfl,by decide,by decide,hp1,s2 _ _ g1,ae _,(fun _ z=>nomatch z),s1.trans s2⟩ (by rintro i σ G _ ⟨_,_,_,_,_,_,g,_⟩;exact bH.of g) ?_ ?_⟩
 ·rintro D' N i hN y σ G hi ⟨x,ls,v,rfl,x0,x1,g2,g3,hls,l0,sG⟩;obtain ⟨z,rfl,hz⟩:=eV hi;have i63:i < 63:=by have:=(bu.mp hz).1;omega
  have q1:(0:Int) < 2147483629:=by decide
  have q2:(0:Int) < 2147483647:=by decide
  have e1:=gr (x * 48271+z % 2147483629+1) (show (2147483647:Int)≠0 by decide);have e2:=gb (x * 48271+z % 2147483629+1) q2;refine ⟨_,rfl,_,_,rfl,rfl,.inr ⟨by decide,by decide⟩,_,rfl,_,_,rfl,rfl,q1,_,_,rfl,rfl,_,_,rfl,rfl,_,_,rfl,rfl,q2,?_⟩;refine ⟨_,rfl,_,_,rfl,rfl,⟨by decide,by decide,by decide⟩,_,_,rfl,rfl,_,rfl,?_⟩
  by_cases c:((10:Int) ^ (18:Int).toNat)<=z
  ·refine bP (ah c) ?_;refine ⟨_,rfl,.inl ⟨rfl,_,bH.of g3⟩,_,rfl,fl,_,_,rfl,rfl,g3,by rw [ac];exact aU (by omega),?_⟩;have z0:0<=z:=Int.le_trans (by decide) c;refine hN _ _ ⟨_,ls++[z],_,rfl,e1,e2,(aH n1).trans g2,by rw [aD,az];rfl,by rw [ap];show ls.length+1<=_;omega,fun w hw=>?_,fun b o hb=>?_⟩
   ·rcases dj.mp hw with q | q
    ·exact l0 w q
    ·rw [cq.mp q];exact z0
   ·rw [aH (aK hb hfl)];exact sG b o hb
  ·refine bC (by simpa using c) ?_;exact hN _ _ ⟨_,ls,_,rfl,e1,e2,g2,g3,by omega,l0,sG⟩
 ·rintro σ G ⟨x,ls,v,rfl,x0,x1,g2,g3,hls,l0,sG⟩;refine ⟨_,rfl,_,rfl,by show 3<=sizeLine;decide,fun r hr'=>?_⟩;have s3:=aB hr' (.lst [.int x,.int 0,.ref fl]);exact k r fl _ ⟨x,0,ls,aD,s3 _ _ g3,(aK g3 hr').symm,x0,x1,ng _,l0⟩ (sG.trans s3)
theorem aD7 (C_Draw:Cl P w K mg base 1 spDrawP "_law_draw") (m_range:mg "range"=none):eU P w K mg base "_law_name" "_law_name" aQ4 2 ["_law_pot_here"] spNameP:=by
 refine gZ ["_law_pot_here","_law_letters","_law_name_here","_law_near"] fun H Q nd hr h=>?_
 obtain ⟨p,l,rfl,D,k⟩:=h;refine ⟨_,(@aF _ _ _ _ _ (kC 1 nd aG)
  (@aF _ _ _ _ _ (kC 2 nd (dG PySem.F.plainAttrs_str PySem.F.slot_str_join PySem.F.type_str_join zD aG (aM (cJ ["_law_k","_law_letters","_law_pot_here"] [none,some 1,some 0] (bV (by rfl) m_range (aM (aJ aW aC (bU C_Draw hr (aA (pv 0) (aM aC)))))) (fun _ _ _ _=>(eX 0)) (fun _ _ _ _=>dL) (fun _ _ _ _=>(cU qK (pv 1) (bU C_Draw hr (aA (pv 2) (aM aC)))))))))
  (@aF _ _ _ _ _ (jA (bO (dF cP (bU C_Draw hr (aA (pv 0) (aM aC))) aC) (@aF _ _ _ _ _ (@rK _ _ 3 _ _ _ _ nd rfl (ka rfl) (@bQ _ _ _ _ (@aA _ _ _ _ _ aG (@aA _ _ _ _ _ aG (@aA _ _ _ _ _ aG (@aA _ _ _ _ _ aG (@aA _ _ _ _ _ aG (@aA _ _ _ _ _ aG (@aA _ _ _ _ _ aG (@aA _ _ _ _ _ aG (@aA _ _ _ _ _ aG (@aA _ _ _ _ _ aG (@aA _ _ _ _ _ aG (@aA _ _ _ _ _ aG cA rfl) rfl) rfl) rfl) rfl) rfl) rfl) rfl) rfl) rfl) rfl) rfl)) rfl (ka rfl))
  (@aE _ _ _ (kC 2 nd (cU bT (pv 3) (bU C_Draw hr (aA (pv 0) (aM aC))))))) aX))
  (@aF _ _ _ _ _ (jA (bO (dF cW (pv 2) (@aR _ _ _ _ _ (@aA _ _ _ _ _ aG (@aA _ _ _ _ _ aG (@aA _ _ _ _ _ aG (@aA _ _ _ _ _ aG (@aA _ _ _ _ _ aG (@aA _ _ _ _ _ aG (@aA _ _ _ _ _ aG cA rfl) rfl) rfl) rfl) rfl) rfl) rfl))) (aE (kC 2 nd (aJ lT (pv 2) aG))) aX))
  (@aF _ _ _ _ _ (jA (bO (dF cW (pv 2) (@aR _ _ _ _ _ (@aA _ _ _ _ _ aG (@aA _ _ _ _ _ aG (@aA _ _ _ _ _ aG (@aA _ _ _ _ _ aG (@aA _ _ _ _ _ aG cA rfl) rfl) rfl) rfl) rfl))) (aE (kC 2 nd (aJ lT (pv 2) aG))) aX))
  (@aE _ _ _ (aO (pv 2)))))))),?_⟩
 refine ⟨rfl,_,rfl,p,l,8,rfl,D,by decide,by decide,fun n0 H1 n1 n2 D1 o1=>⟨_,_,rfl,rfl,1+n0,rfl,by omega,by omega,?_⟩⟩;refine cV (n:=(1+n0).toNat) (fun i ys σ G=>fZ G p l/\Out p l H G/\(∃ v,σ=[v,some (.str "abcdefghijklmnopqrstuvwxyz"),some (.ref p)])/\∃ zs:List Str,ys=zs.map V.str/\zs.length=i/\∀ z∈zs,z.length=1) (aU (by omega)) ⟨D1,o1,⟨_,rfl⟩,[],rfl,rfl,fun _ z=>nomatch z⟩
  (by rintro i ys σ G ⟨_,_,_,zs,e,e2,_⟩;rw [e,ac];omega) ?_ ?_
 ·rintro i ys σ G hi ⟨D2,o2,⟨v,rfl⟩,zs,rfl,hl,h1⟩;refine ⟨_,rfl,_,rfl,p,l,26,rfl,D2,by decide,by decide,fun r H3 r0 r1 D3 o3=>?_⟩;obtain ⟨c,hc⟩:=aH6 (z:="abcdefghijklmnopqrstuvwxyz") r0 r1;refine ⟨_,r,c,rfl,rfl,by decide,hc,D3,o2.trans o3,⟨_,rfl⟩,zs++[⟨#[c]⟩],by rw [az];rfl,by rw [ap,hl];rfl,fun z hz=>?_⟩;rcases dj.mp hz with q | q
  ·exact h1 z q
  ·have e:z=⟨#[c]⟩:=by simpa using q
   rw [e];rfl
 rintro ys σ H2 ⟨D2,o2,_,zs,rfl,hl,h1⟩ q hq;have hsm:=pP h1;refine ⟨_,q,zs,rfl,rfl,bH.of aD,by rw [hsm];show zs.length+zs.length * 0<=_;omega,?_⟩;have hj:=vR "" zs;rw [hsm] at hj;have e0:("": Str).length=0:=rfl;rw [e0] at hj;have D3:=D2.same (aB hq (.lst (zs.map V.str)));have o3:=o2.trans (Out.of (d:=p) (l:=l) (aB hq (.lst (zs.map V.str))));generalize aN H2 q (.lst (zs.map V.str))=H3 at D3 o3 ⊢;generalize Txt.join "" zs=cr at hj ⊢;have c8:cr.length<=8:=by omega
 refine ⟨fun σ G=>∃ (w:Str) (v3:Option V),σ=[some (.ref p),some (.str "abcdefghijklmnopqrstuvwxyz"),some (.str w),v3]/\w.length<=8/\fZ G p l/\Out p l H G,?_,?_⟩
 ·refine ⟨_,rfl,p,l,6,rfl,D3,by decide,by decide,fun x H4 x0 x1 D4 o4=>⟨rfl,_,rfl,tI (fun _=>?_) (fun _=>⟨cr,_,rfl,c8,D4,o3.trans o4⟩)⟩⟩;refine ⟨by show 12<=sizeLine;decide,fun ll hll=>?_⟩;obtain ⟨m1,m2⟩:=dC D4 hll;have s5:=aB hll (.lst (mE.map V.str));have h5:aN H4 ll (.lst (mE.map V.str)) ll=some (.lst (mE.map V.str)):=aD;have D5:=D4.same s5;refine ⟨_,rfl,_,rfl,p,l,12,rfl,D5,by decide,by decide,fun y H6 y0 y1 D6 o6=>?_⟩;obtain ⟨w,hw,hw8⟩:=yV y0 y1;exact ⟨ll,_,_,.str w,rfl,rfl,bH.of (cG h5 m1 m2 o6),hw,w,_,rfl,hw8,D6,o3.trans (o4.trans ((Out.of s5).trans o6))⟩
 rintro σ G ⟨w,v3,rfl,w8,D4,o4⟩;refine ⟨fun σ G=>∃ (w:Str) (v3:Option V),σ=[some (.ref p),some (.str "abcdefghijklmnopqrstuvwxyz"),some (.str w),v3]/\w.length<=9/\fZ G p l/\Out p l H G,?_,?_⟩
 ·refine ⟨_,rfl,by show 7<=sizeLine;decide,fun t ht=>⟨t,_,rfl,.inr (bA.of aD),rfl,rfl,_,rfl,tI (fun _=>⟨_,rfl,_,_,rfl,rfl,?_,_,_,rfl,?_,D4.same (aB ht _),o4.trans (.of (aB ht _))⟩) (fun _=>⟨w,_,rfl,by omega,D4.same (aB ht _),o4.trans (.of (aB ht _))⟩)⟩⟩
  ·exact cg (aU (by show w.length+1<=_;omega))
  ·rw [kA];show w.length+1<=9;omega
 rintro σ G ⟨w,v3,rfl,w8,D4,o4⟩;refine ⟨fun σ G=>∃ (w:Str) (v3:Option V),σ=[some (.ref p),some (.str "abcdefghijklmnopqrstuvwxyz"),some (.str w),v3]/\w.length<=10/\fZ G p l/\Out p l H G,?_,?_⟩
 ·refine ⟨_,rfl,by show 5<=sizeLine;decide,fun t ht=>⟨t,_,rfl,.inr (bA.of aD),rfl,rfl,_,rfl,tI (fun _=>⟨_,rfl,_,_,rfl,rfl,?_,_,_,rfl,?_,D4.same (aB ht _),o4.trans (.of (aB ht _))⟩) (fun _=>⟨w,_,rfl,by omega,D4.same (aB ht _),o4.trans (.of (aB ht _))⟩)⟩⟩
  ·exact cg (aU (by show w.length+1<=_;omega))
  ·rw [kA];show w.length+1<=10;omega
 rintro σ G ⟨w,v3,rfl,w8,D4,o4⟩;exact ⟨_,rfl,k w _ (by omega) D4 o4⟩
theorem aI4 (C_LNm:Cl P w K mg base 2 spNameP "_law_name") (m_range:mg "range"=none):eU P w K mg base "_law_names" "_law_names" aM9 3 ["_law_pot_here","_law_many"] spNamesP:=by
 refine gZ ["_law_pot_here","_law_many","_law_letters","_law_found","_law_k","_law_name_here","_law_spare"] fun H Q nd hr h=>?_
 obtain ⟨p,l,n,rfl,D,n1,n3,k⟩:=h;refine ⟨_,(cQ 2 nd aG
  (cQ 3 nd (bQ cA)
  (aF (nJ (bV (by rfl) m_range (aM (pv 1))) (eX 4 nd)
  (cQ 5 nd (bU C_LNm hr (aM (pv 0)))
  (cQ 6 nd aC
  (aF (gK gp (dF cW (pv 5) (pv 3))
  (cQ 5 nd (aJ qL (cU qK (pv 2) (aJ fC (pv 6) aC)) (aJ aW aC (aJ gJ (pv 6) aC)))
  (aE (kC 6 nd (aJ aW (pv 6) aC)))))
  (aE (bR (dG bb cm cp cH (pv 3) (aM (pv 5)))))))))
  (aE (aO (pv 3)))))),?_⟩
 refine ⟨bh _,fun fl hfl=>?_⟩;obtain ⟨nf1,nf2⟩:=dC D hfl;have s1:=aB hfl (.lst []);have g1:aN H fl (.lst []) fl=some (.lst (([]:List Str).map V.str)):=aD;have D1:=D.same s1;generalize aN H fl (.lst [])=H1 at s1 g1 D1 ⊢;refine ⟨_,rfl,n,rfl,by omega,by omega,fX (n:=n.toNat) (fun i σ G=>∃ (ws:List Str) (v4 v5 v6:Option V),σ=[some (.ref p),some (.int n),some (.str "zyxwvutsrqponmlkjihgfedcba"),some (.ref fl),v4,v5,v6]/\fZ G p l/\Out p l H G/\G fl=some (.lst (ws.map V.str))/\ws.length=i)
  ⟨[],_,_,_,rfl,D1,.of s1,g1,rfl⟩ ?_ ?_⟩
 ·rintro D' N i hN σ G hi ⟨ws,v4,v5,v6,rfl,D2,o2,g2,hl⟩;refine ⟨_,rfl,p,l,rfl,D2,fun w H3 w20 D3 o3=>?_⟩;have g3:=cG g2 nf1 nf2 o3;refine ⟨fun j σ G=>∃ (w:Str) (s:Nat),σ=[some (.ref p),some (.int n),some (.str "zyxwvutsrqponmlkjihgfedcba"),some (.ref fl),some (.int (0+i)),some (.str w),some (.int s)]/\G=H3/\s<=3/\jL (uU.take (s - 1)) ws/\(0 < s->w=uU.getD (s - 1) "")/\j=3 - s,⟨_,w,0,rfl,rfl,by decide,(fun _ z=>nomatch z),(fun z=>absurd z (by decide)),rfl⟩,?_⟩;rintro j σ G' ⟨w,s,rfl,rfl,s3,hs,hw,rfl⟩;refine ⟨_,rfl,_,rfl,fl,_,rfl,.inl (bH.of g3),rfl,dM _,_,rfl,?_⟩;have ei:oU (V.str w) (ws.map V.str)=decide (w∈ws):=gO _ _
  by_cases c:w∈ws
  ·refine bP (ei.trans (ah c)) ?_;obtain ⟨s2,ht⟩:=yS s3 hs hw c (by omega);obtain ⟨ch,hc,ech⟩:=aS8 s2;refine ⟨fun σ' G2=>∃ (w':Str) (s':Nat),σ'=[some (.ref p),some (.int n),some (.str "zyxwvutsrqponmlkjihgfedcba"),some (.ref fl),some (.int (0+i)),some (.str w'),some (.int s')]/\G2=G'/\s'<=3/\jL (uU.take (s' - 1)) ws/\(0 < s'->w'=uU.getD (s' - 1) "")/\3 - s' < 3 - s,(by rintro σ' G2 ⟨w',s',e1,e2,e3,e4,e5,e6⟩;exact ⟨_,e6,w',s',e1,e2,e3,e4,e5,rfl⟩),?_⟩;refine ⟨_,rfl,_,rfl,_,_,rfl,rfl,(show (0:Int) < 26 by decide),_,_,ch,rfl,rfl,by decide,hc,_,rfl,_,_,rfl,rfl,⟨by decide,by decide +kernel⟩,_,_,rfl,rfl,_,_,rfl,rfl,rfl,.inr (by show 1+(s:Int) / 26=1;omega),?_⟩;refine ⟨_,rfl,_,_,rfl,rfl,_,s+1,by rw [lz];rfl,rfl,by omega,ht,fun _=>?_,by omega⟩;show (if 1+(s:Int) / 26=0 then Str.empty else (⟨#[ch]⟩:Str))=_;rw [ar (by omega),ech];rfl
  ·refine bC (fun z=>c (ao (ei.symm.trans z))) ?_;refine ⟨_,rfl,.inl ⟨rfl,_,bH.of g3⟩,_,rfl,fl,_,_,rfl,rfl,g3,by rw [ac];exact aU (by omega),?_⟩;exact hN _ _ ⟨ws++[w],_,_,_,rfl,oM D3 nf1 nf2,Mine.Out.new (o2.trans o3) hfl,by rw [aD,az];rfl,by rw [ap,hl];rfl⟩
 ·rintro σ G ⟨ws,v4,v5,v6,rfl,D2,o2,g2,hl⟩;exact ⟨_,rfl,k fl ws _ hfl g2 hl D2 o2 nf1 nf2⟩
theorem aK6 (C_Few:Cl P w K mg base 2 spFew "_law_few") (C_Draw:Cl P w K mg base 1 spDrawP "_law_draw") (C_Bnd:Cl P w K mg base 2 spBnd "_law_bounds") (C_Agn:Cl P w K mg base 1 spAgain "_law_again") (C_Stp:Cl P w K mg base 2 spSteepP "_law_steep") (C_Sum:Cl P w K mg base 2 spSumP "_law_sum") (m_int:mg "int"=none) (m_tuple:mg "tuple"=none) (m_min:mg "min"=none) (m_range:mg "range"=none):eU P w K mg base "_law_throw" "_law_throw" aQ0 3 ["_law_pot_here","_law_scene","_law_x"] spThrP:=by
 refine gZ ["_law_pot_here","_law_scene","_law_x","_law_few_here","_law_kinds","_law_sort","_law_many","_law_low","_law_high","_law_asks","_law_sums_here","_law_mark"] fun H Q nd hr h=>?_
 obtain ⟨p,l,sc,nl,nh,hg,kn,rw,ag,rn,xs,ns,x,rfl,S0,k⟩:=h;have hu:=kU hr;refine ⟨_,(cQ 3 nd (bU C_Few hr (aM (pv 1)))
  (cQ 4 nd (nC hu (pv 1) aG)
  (cQ 5 nd (bU C_Draw hr (aA (pv 0) (aM aC)))
  (cQ 6 nd (aJ aW aC (bU C_Draw hr (aA (pv 0) (aM (pv 3)))))
  (aF (bO (dF kD (pv 5) aC) (aF (jS (bU C_Bnd hr (aA (pv 0) (aA (pv 1) (aM (pv 6))))) (nR rfl (dB (eX 7 nd) (dB (eX 8 nd) kM))))
  (aF (pdp hu (pv 1) aG (aJ gJ (nC hu (pv 1) aG) (bU C_Agn hr (aA (aJ aW (aJ cL (pv 8) (pv 7)) aC) (aM (nC hu (pv 1) aG))))))
  (aF (bO (dF cP (pv 5) aC) (aE (aO (aR (aA aG (aA (pv 2) (aA (bU C_Sum hr (aA (pv 0) (aM (pv 4)))) (aA (bU C_Stp hr (aA (pv 0) (aM aC))) (aA (pv 7) (aM (pv 8)))))))))) aX)
  (aE (aO (aR (aA aG (aA (pv 2) (aA (bU C_Sum hr (aA (pv 0) (aM (pv 4)))) (aA (bU C_Draw hr (aA (pv 0) (aM aC))) (aA (pv 7) (aM (pv 8))))))))))))) aX)
  (cQ 9 nd (kO (uS jQ m_int gx (aM (oQ (pec cP (pv 5) aC) (oP (pec fA (pv 3) aC))))))
  (cQ 6 nd (aJ aW aC (bU C_Draw hr (aA (pv 0) (aM (lY (fG rfl) m_min ge (aA (aJ cL aC (pv 9)) (aM (aJ cL (pv 3) (pv 9)))))))))
  (cQ 10 nd (uS bX m_tuple cz (aM (cJ ["_law_k","_law_pot_here","_law_kinds"] [none,some 0,some 4] (bV (by rfl) m_range (aM (pv 6))) (fun _ _ _ _=>(eX 0)) (fun _ _ _ _=>dL) (fun _ _ _ _=>(bU C_Sum hr (aA (pv 1) (aM (pv 2))))))))
  (aF (pdp hu (pv 1) aG (aJ gJ (nC hu (pv 1) aG) (bU C_Agn hr (aA (aJ aW (pv 6) (pv 9)) (aM (nC hu (pv 1) aG))))))
  (aF (jS (bU C_Bnd hr (aA (pv 0) (aA (pv 1) (aM (aJ aW (aJ aW aC (pv 9)) (bU C_Draw hr (aA (pv 0) (aM (aJ cL (aJ aW (nC hu (pv 1) aG) aC) (pv 9)))))))))) (nR rfl (dB (eX 7 nd) (dB (eX 8 nd) kM))))
  (aF (bO (dF cP (pv 9) aC) (aE (aO (aR (aA aG (aA (pv 2) (aA (pv 10) (aA (bU C_Stp hr (aA (pv 0) (aM aC))) (aA (pv 7) (aM (pv 8)))))))))) aX)
  (cQ 11 nd (aJ aW (pv 7) (bU C_Draw hr (aA (pv 0) (aM (aJ aW (aJ cL (pv 8) (pv 7)) aC)))))
  (aE (aO (aR (aA aG (aA (pv 2) (aA (pv 11) (aA (bU C_Stp hr (aA (pv 0) (aM aC))) (aA (bU C_Stp hr (aA (pv 0) (aM aC))) (aA (pv 10) (aA (pv 7) (aM (pv 8)))))))))))))))))))))))),?_⟩
 have r1:=S0.r1;have r2:=S0.r2;have a2:=S0.a2;have k1:=S0.k1;have k3:=S0.k3;have h2:=S0.h2;have h9:=S0.h9;refine ⟨_,rfl,sc,nl,kn,rw,rn,hg,ag,rfl,S0.sc,a2,by omega,by omega,fun few H1 s1 f1 f6 hf=>?_⟩;have S1:=S0.same s1;refine ⟨_,rfl,sc,_,rfl,S1.g_kinds,?_⟩;refine ⟨_,rfl,p,l,4,rfl,S1.pot,by decide,by decide,fun so H2 so0 so1 D2 o2=>?_⟩;have S2:=S1.out D2 o2;refine ⟨_,rfl,_,rfl,p,l,few,rfl,D2,by omega,by omega,fun mm H3 mm0 mm1 D3 o3=>⟨_,_,rfl,rfl,?_⟩⟩;have S3:=S2.out D3 o3;have oA:cB [p,l,sc,nh] H H3:=(cB.of s1).trans ((cB.out o2).trans (cB.out o3));clear s1 o2 o3 D2 D3 S1 S2;refine ⟨_,rfl,_,_,rfl,rfl,_,rfl,?_⟩
 by_cases c:so < 2
 ·refine bP (ah c) ?_;refine ⟨_,rfl,_,rfl,_,rfl,p,l,sc,nl,hg,kn,rw,ag,rn,1+mm,rfl,S3.pot,S3.sc,h2,h9,by omega,by omega,fun r lo hi H4 t4 lo0 hi9 ehi D4 o4=>?_⟩;obtain ⟨mz,ez,mz1,mzf⟩:∃ mz:Nat,hi - lo+1=(mz:Int)/\1<=mz/\mz<=few:=⟨(hi - lo+1).toNat,by split at ehi <;> omega,by split at ehi <;> omega,by split at ehi <;> omega⟩
  have S4:=S3.out D4 o4;have oB:=oA.trans (cB.out (sc:=sc) (nh:=nh) o4);refine ⟨r,_,rfl,bA.of t4,rfl,_,_,rfl,_,_,rfl,rfl,?_⟩;obtain ⟨q1,q2,q3,q4,q5⟩:=xK (many:=mz) hf mz1 mzf r2;refine ⟨_,rfl,sc,_,rfl,S4.g_runs,_,rfl,_,rfl,_,_,rfl,rfl,_,_,rfl,rfl,_,rfl,sc,_,rfl,S4.g_again,mz,ag,by show [V.int (hi - lo+1),V.int ag]=_;rw [ez],by omega,by omega,fun H5 s5=>?_⟩;have S5:=S4.same s5;refine ⟨_,_,rfl,rfl,⟨by omega,ir (b:=60) (by omega) (by decide +kernel)⟩,_,rfl,sc,_,rfl,S5.p_runs,?_⟩;obtain ⟨S6,o6⟩:=S5.put (rw':=rw) (ag':=ag) (rn':=rn / mz ^ ag) q1 q2 S0.a1 a2 S0.w1;have oC:=oB.trans ((cB.of s5).trans o6);clear S5 S4 S3 oB oA t4 o4;rw [show (rn:Int) / ((mz ^ ag:Nat):Int)=((rn / mz ^ ag:Nat):Int) from (ma _ _).symm];generalize aN H5 sc (.dK (eR kn rw ag ((rn / mz ^ ag:Nat):Int) hg nl))=H6 at S6 oC ⊢;have esz:(hi+1 - lo).toNat=mz:=by omega
  refine ⟨_,rfl,rfl,_,rfl,?_⟩
  by_cases c0:so=0
  ·refine bP (by rw [c0];exact ah rfl) ?_;refine ⟨_,rfl,_,rfl,_,rfl,p,l,kn,rfl,S6.pot,k1,k3,fun w ws H7 h7 l7 b7 D7 o7=>?_⟩;refine ⟨_,rfl,p,l,1,rfl,D7,fun st a b H8 h8 st8 _ D8 o8=>⟨_,rfl,_,rfl,by show 6<=sizeLine;decide,fun q hq=>?_⟩⟩;have s9:=aB hq (.tup [.str "ladder",.str x,.ref w,.ref st,.int lo,.int hi]);have S9:=((S6.out D7 o7).out D8 o8).same s9;refine k q (.lad a b lo hi) (.ref w) [ws] _ _ ⟨⟨st,aD,s9 _ _ h8⟩,.inl ⟨rfl,w,ws,rfl,s9 _ _ (D7.ts o8 _ _ h7),rfl⟩⟩ ⟨⟨st8,⟨lo0,by omega,by omega⟩⟩⟩ (kQ (ae _) (by show 1<=4;decide) k3 (fun u hu=>by rw [cq.mp hu];exact ⟨l7,b7⟩) fun _=>rfl) ?_ S9 (oC.trans ((cB.out o7).trans ((cB.out o8).trans (.of s9))));show (hi+1 - lo).toNat ^ ag * _<=rn;rw [esz];exact q3
  ·refine bC (fun z=>c0 (by have z:=ao z;injection z)) ?_;refine ⟨_,rfl,_,rfl,_,rfl,p,l,kn,rfl,S6.pot,k1,k3,fun w ws H7 h7 l7 b7 D7 o7=>?_⟩;refine ⟨_,rfl,p,l,5,rfl,D7,by decide,by decide,fun rr H8 rr0 rr1 D8 o8=>⟨_,rfl,_,rfl,by show 6<=sizeLine;decide,fun q hq=>?_⟩⟩;have s9:=aB hq (.tup [.str "flat",.str x,.ref w,.int rr,.int lo,.int hi]);have S9:=((S6.out D7 o7).out D8 o8).same s9;refine k q (.fla rr lo hi) (.ref w) [ws] _ _ ⟨aD,.inl ⟨rfl,w,ws,rfl,s9 _ _ (D7.ts o8 _ _ h7),rfl⟩⟩ ⟨⟨rr0,by omega,⟨lo0,by omega,by omega⟩⟩⟩ (kQ (ae _) (by show 1<=4;decide) k3 (fun u hu=>by rw [cq.mp hu];exact ⟨l7,b7⟩) fun _=>rfl) ?_ S9 (oC.trans ((cB.out o7).trans ((cB.out o8).trans (.of s9))));show (hi+1 - lo).toNat ^ ag * _<=rn;rw [esz];exact q3
 ·refine bC (by simpa using c) ?_;refine ⟨fun v G=>G=H3/\∃ z:Nat,v= .int z/\z<=1/\z < few,?_,?_⟩
  ·refine ⟨_,rfl,rfl,_,rfl,?_⟩
   by_cases c3:so=3
   ·refine bP (by rw [c3];exact ah rfl) ⟨_,rfl,_,_,rfl,rfl,.inr ⟨_,rfl,rfl,?_⟩⟩
    by_cases cf:(1:Int) < few
    ·exact ⟨1,by rw [ah cf];rfl,by decide,by omega⟩
    ·exact ⟨0,by rw [bo cf];rfl,by decide,by omega⟩
   ·refine bC (fun z=>c3 (by have z:=ao z;injection z)) (.inr ⟨_,rfl,rfl,0,rfl,by decide,by omega⟩)
  rintro v G ⟨rfl,asks,rfl,as1,asf⟩;have mn:1<=(if (few:Int) - asks < 4 - asks then (few:Int) - asks else 4 - asks)/\(if (few:Int) - asks < 4 - asks then (few:Int) - asks else 4 - asks)<=4 - asks/\(if (few:Int) - asks < 4 - asks then (few:Int) - asks else 4 - asks)<=few - asks:=by split <;> omega
  refine ⟨_,rfl,_,rfl,_,_,rfl,rfl,_,rfl,_,rfl,_,_,rfl,rfl,_,_,rfl,p,l,_,rfl,S3.pot,by show 0 < (if (few:Int) - asks < 4 - asks then (few:Int) - asks else 4 - asks);omega,by show (if (few:Int) - asks < 4 - asks then (few:Int) - asks else 4 - asks) < _;omega,fun my H4 my0 my1 D4 o4=>⟨_,_,rfl,rfl,?_⟩⟩;have my1:my < (if (few:Int) - asks < 4 - asks then (few:Int) - asks else 4 - asks):=my1;obtain ⟨my4,myf⟩:my < 4 - asks/\my < few - asks:=by omega
  clear mn my1;have S4:=S3.out D4 o4;have oB:=oA.trans (cB.out (sc:=sc) (nh:=nh) o4);clear oA o4;refine ⟨_,rfl,1+my,rfl,by omega,by omega,cV (n:=(1+my).toNat) (fun i ys σ G=>Sc G p l sc nl nh hg kn rw ag rn xs ns/\cB [p,l,sc,nh] H G/\(∃ v,σ=[v,some (.ref p),some (.int kn)])/\∃ wss:List (List Int),dA (dH G) ys wss/\ys.length=i/\wss.length=i/\∀ ws∈wss,ws.length=kn.toNat/\∀ x∈ws,0<=x/\x<=3) (aU (by omega)) ⟨S4,oB,⟨_,rfl⟩,[],trivial,rfl,rfl,(fun _ z=>nomatch z)⟩
   (by rintro i ys σ G ⟨_,_,_,_,_,e,_⟩;omega) ?_ ?_⟩
  ·rintro i ys σ G' hi ⟨S5,o5,⟨v,rfl⟩,wss,tw,ly,lw,hw⟩;refine ⟨_,rfl,_,rfl,p,l,kn,rfl,S5.pot,k1,k3,fun w ws H6 h6 l6 b6 D6 o6=>⟨S5.out D6 o6,o5.trans (cB.out o6),⟨_,rfl⟩,wss++[ws],dA.append (tw.mono fun _ _ z=>z.ts (S5.pot.ts o6)) ⟨⟨w,rfl,h6⟩,trivial⟩,by rw [ap,ly];rfl,by rw [ap,lw];rfl,fun u hu=>?_⟩⟩;rcases dj.mp hu with q | q
   ·exact hw u q
   ·rw [cq.mp q];exact ⟨l6,b6⟩
  rintro ys σ G' ⟨S5,o5,_,wss,tw,ly,lw,hw⟩ q hq;refine ⟨q,_,rfl,.inl ⟨bH.of aD,fun sm hsm=>?_⟩⟩;have s6:=(aB hq (.lst ys)).trans (aB hsm (.tup ys));have h6:gX (aN (aN G' q (.lst ys)) sm (.tup ys)) sm wss:=⟨ys,aD,tw.mono fun _ _ z=>z.ts (.of s6)⟩
  have S6:=S5.same s6;have oC:=o5.trans (.of s6);generalize aN (aN G' q (.lst ys)) sm (.tup ys)=H6 at h6 S6 oC ⊢;clear S5 S4 S3 s6 tw oB o5;obtain ⟨q1,q2,q3,q4,q5⟩:=xK (many:=(1+my).toNat+asks) hf (by omega) (by omega) r2;refine ⟨_,rfl,sc,_,rfl,S6.g_runs,_,rfl,_,rfl,_,_,rfl,rfl,_,rfl,sc,_,rfl,S6.g_again,(1+my).toNat+asks,ag,by show [V.int (1+my+(asks:Int)),V.int ag]=_;rw [show 1+my+(asks:Int)=(((1+my).toNat+asks:Nat):Int) by omega],by omega,by omega,fun H7 s7=>?_⟩;have S7:=S6.same s7;refine ⟨_,_,rfl,rfl,⟨by omega,ir (b:=60) (by omega) (by decide +kernel)⟩,_,rfl,sc,_,rfl,S7.p_runs,?_⟩;obtain ⟨S8,o8⟩:=S7.put (rw':=rw) (ag':=ag) (rn':=rn / ((1+my).toNat+asks) ^ ag) q1 q2 S0.a1 a2 S0.w1;have oD:=oC.trans ((cB.of s7).trans o8);have h8:=h6.ts ((TS.of s7).trans (S7.ts o8));clear S7 S6 oC h6;rw [show (rn:Int) / ((((1+my).toNat+asks) ^ ag:Nat):Int)=((rn / ((1+my).toNat+asks) ^ ag:Nat):Int) from (ma _ _).symm]
  generalize aN H7 sc (.dK (eR kn rw ag ((rn / ((1+my).toNat+asks) ^ ag:Nat):Int) 9 nl))=H8 at S8 oD h8 ⊢;refine ⟨_,rfl,_,rfl,_,rfl,_,_,rfl,rfl,_,rfl,_,rfl,sc,_,rfl,S8.g_high,_,_,rfl,rfl,_,rfl,_,_,rfl,rfl,p,l,hg+1 - (asks:Int),rfl,S8.pot,by omega,by omega,fun z H9 z0 z1 D9 o9=>⟨_,_,rfl,rfl,?_⟩⟩;have S9:=S8.out D9 o9;refine ⟨p,l,sc,nl,hg,kn,rw,ag,_,1+asks+z,rfl,S9.pot,S9.sc,h2,h9,by omega,by omega,fun r lo hi H10 t10 lo0 hi9 ehi D10 o10=>?_⟩;rw [ar (by omega)] at ehi;refine ⟨r,_,rfl,bA.of t10,rfl,_,_,rfl,_,_,rfl,rfl,?_⟩;have S10:=S9.out D10 o10;have oE:=oD.trans ((cB.out o9).trans (cB.out o10));have h10:=h8.ts ((S8.pot.ts o9).trans (S9.pot.ts o10));clear S9 S8 oD h8 t10;refine ⟨_,rfl,rfl,_,rfl,?_⟩
  by_cases ca:asks=0
  ·refine bP (by rw [ca];exact ah rfl) ?_;refine ⟨_,rfl,_,rfl,_,rfl,p,l,1,rfl,S10.pot,fun st a b H11 h11 st11 _ D11 o11=>⟨_,rfl,_,rfl,by show 6<=sizeLine;decide,fun q hq=>?_⟩⟩;have s12:=aB hq (.tup [.str "choose",.str x,.ref sm,.ref st,.int lo,.int hi]);have S12:=(S10.out D11 o11).same s12;refine k q (.cho a b lo hi) (.ref sm) wss _ _ ⟨⟨st,aD,s12 _ _ h11⟩,.inr ⟨rfl,sm,rfl,h10.ts ((S10.pot.ts o11).trans (.of s12))⟩⟩ ⟨⟨st11,⟨lo0,by omega,by omega⟩⟩⟩ (kQ (by omega) (by omega) k3 hw fun z=>nomatch z) ?_ S12 (oE.trans ((cB.out o11).trans (.of s12)));show wss.length ^ ag * _<=rn;rw [show wss.length=(1+my).toNat+asks by omega];exact q3
  ·refine bC (fun z=>ca (by have z:=ao z;injection z with z;omega)) ?_;refine ⟨_,rfl,_,rfl,_,rfl,_,rfl,_,_,rfl,rfl,_,_,rfl,rfl,p,l,hi - lo+1,rfl,S10.pot,by omega,by omega,fun mk H11 mk0 mk1 D11 o11=>⟨_,_,rfl,rfl,?_⟩⟩;refine ⟨_,rfl,_,rfl,_,rfl,p,l,1,rfl,D11,fun sa pa qa H12 h12 st12 _ D12 o12=>⟨_,rfl,p,l,2,rfl,D12,fun sb pb qb H13 h13 st13 hb13 D13 o13=>⟨_,rfl,_,rfl,_,rfl,by show 8<=sizeLine;decide,fun q hq=>?_⟩⟩⟩;have s14:=aB hq (.tup [.str "first",.str x,.int (lo+mk),.ref sa,.ref sb,.ref sm,.int lo,.int hi]);have S14:=(((S10.out D11 o11).out D12 o12).out D13 o13).same s14;have t4:=(S10.pot.ts o11).trans ((D11.ts o12).trans ((D12.ts o13).trans (.of s14)));refine k q (.fst pa qa pb qb (lo+mk) lo hi) (.ref sm) wss _ _ ⟨⟨sa,sb,sm,rfl,aD,s14 _ _ (D12.ts o13 _ _ h12),s14 _ _ h13⟩,.inr ⟨rfl,sm,rfl,h10.ts t4⟩⟩ ⟨⟨st12,st13,hb13 rfl,⟨lo0,by omega,by omega⟩,by omega,by omega⟩⟩ (kQ (by omega) (by omega) k3 hw fun z=>nomatch z) ?_ S14 (oE.trans ((cB.out o11).trans ((cB.out o12).trans ((cB.out o13).trans (.of s14)))))
   show (wss.length+1) ^ ag * _<=rn;rw [show wss.length+1=(1+my).toNat+asks by omega];exact q3
theorem aF8 (m:Nat) (C_LRs:Cl P w K mg base (3 * m+13) (nZ m) "_law_rows") (C_Draw:Cl P w K mg base 1 spDrawP "_law_draw") (C_Trm:Cl P w K mg base 13 (vK 12) "_law_term") (m_min:mg "min"=none) (m_list:mg "list"=none) (m_int:mg "int"=none):eU P w K mg base "_law_inner" "_law_inner" aP0 (3 * m+13+1) ["_law_pot_here","_law_scene","_law_names_here","_law_left","_law_deep"] (oS true m):=by
 refine gZ ["_law_pot_here","_law_scene","_law_names_here","_law_left","_law_deep","_law_told","_law_term_here","_law_mine","_law_one","_law_yours","_law_other","_law_k"] fun H Q nd hr h=>?_
 obtain ⟨p,l,sc,nl,nh,hg,kn,rw,ag,rn,left,deep,xs,ns,rfl,S0,l3,hd,ha,hc,k⟩:=h;have hu:=kU hr;refine ⟨_,(aF (pdp hu (pv 1) aG (aJ cL (nC hu (pv 1) aG) aC))
  (cQ 5 nd (kO (lY (fG rfl) m_min ge (aA (pv 3) (aM (bU C_Draw hr (aA (pv 0) (aM aC)))))))
  (aF (bO (dF fA (bU C_Draw hr (aA (pv 0) (aM aC))) aC) (cQ 6 nd (bU C_Trm hr (aA (pv 0) (aA (pv 2) (aM aC))))
  (cQ 7 nd (uS iZ m_list jg (aM (pv 2)))
  (cQ 8 nd (bU C_LRs hr (aA (pv 0) (aA (pv 1) (aA (pv 7) (aA (pv 5) (aM (aJ aW (pv 4) aC)))))))
  (cQ 9 nd (uS iZ m_list jg (aM (pv 2)))
  (cQ 10 nd (bU C_LRs hr (aA (pv 0) (aA (pv 1) (aA (pv 9) (aA (pv 5) (aM (aJ aW (pv 4) aC)))))))
  (aF (bR (dG bb eg eo eI (pv 2) (aM (cJ ["_law_x","_law_yours","_law_names_here"] [none,some 9,some 2] (dE (pv 7)) (fun _ _ _ _=>(eX 0)) (fun _ _ _ _=>(nL (PW.pt (gE (dF (inK K) (pv 0) (pv 1)) (eY (dF (aY3 K) (pv 0) (pv 2))))))) (fun _ _ _ _=>(pv 0))))))
  (aE (aO (aR (aA (aR (aA aG (aA (pv 6) (aA (pv 8) (aM (pv 10)))))) (aM (pv 5)))))))))))) aX)
  (cQ 11 nd (aJ aW aC (bU C_Draw hr (aA (pv 0) (aM aC))))
  (cQ 5 nd (kO (aJ fS (pv 5) (uS jQ m_int gx (aM (pec aB6 (pv 11) (pv 3))))))
  (aF (pdp hu (pv 1) aG (aJ fS (nC hu (pv 1) aG) (pv 11)))
  (cQ 8 nd (bU C_LRs hr (aA (pv 0) (aA (pv 1) (aA (pv 2) (aA (pv 5) (aM (aJ aW (pv 4) aC)))))))
  (aF (pdp hu (pv 1) aG (aJ gJ (nC hu (pv 1) aG) (pv 11)))
  (aE (aO (aR (aA (aR (aA aG (aA (pv 11) (aM (pv 8))))) (aM (aJ fS (pv 11) (pv 5))))))))))))))),?_⟩
 obtain ⟨hc1,hc2⟩:1<=rw/\1<=m:=hc;obtain ⟨rw,rfl⟩:∃ r,rw=r+1:=⟨rw - 1,by omega⟩
 obtain ⟨m,rfl⟩:∃ r,m=r+1:=⟨m - 1,by omega⟩
 have w1:=S0.w1;refine ⟨_,rfl,sc,_,rfl,S0.g_rows,_,_,rfl,rfl,_,rfl,sc,_,rfl,S0.p_rows,?_⟩;obtain ⟨S1,o1⟩:=S0.put (rw':=rw) S0.r1 S0.r2 S0.a1 S0.a2 (by omega);rw [show ((rw+1:Nat):Int) - 1=(rw:Int) by omega];generalize aN H sc (.dK (eR kn rw ag rn hg nl))=H1 at S1 o1 ⊢;refine ⟨fun v G=>∃ told:Nat,v= .int told/\told<=left/\told<=1/\Sc G p l sc nl nh hg kn rw ag rn xs ns/\cB [p,l,sc,nh] H G,?_,?_⟩
 ·refine ⟨_,rfl,_,rfl,p,l,2,rfl,S1.pot,by decide,by decide,fun z H2 z0 z1 D2 o2=>⟨_,_,rfl,(if z < (left:Int) then z else (left:Int)).toNat,?_,?_,?_,S1.out D2 o2,o1.trans (cB.out o2)⟩⟩
  ·show V.int (if z < (left:Int) then z else (left:Int))=_
   congr 1
   split <;> omega
  ·split <;> omega
  ·split <;> omega
 rintro v G ⟨told,rfl,t1,t2,S2,o2⟩;refine ⟨_,rfl,p,l,3,rfl,S2.pot,by decide,by decide,fun z H3 z0 z1 D3 o3=>⟨_,_,rfl,rfl,_,rfl,?_⟩⟩;have S3:=S2.out D3 o3;have oA:=o2.trans (cB.out (sc:=sc) (nh:=nh) o3);clear o2 o3 S2 D3 S1 o1
 by_cases c:0 < z
 ·refine bP (ah c) ?_;refine ⟨_,rfl,_,rfl,p,l,nh,ns,5,rfl,S3.pot,S3.hn,S3.n3,S3.n4,S3.ns3,by decide,by decide,by decide,fun t H4 D4 o4 h4 nm4 sz4 ok4=>?_⟩;have S4:=S3.out D4 o4;have oB:=oA.trans (cB.out (sc:=sc) (nh:=nh) o4);refine ⟨_,rfl,nh,_,rfl,.inl (bH.of S4.hn),fun lm hlm=>?_⟩;obtain ⟨m1,m2,m3,m4⟩:=S4.new hlm;have f5:H lm=none:=S4.fresh oB hlm;obtain ⟨H5,e0,s5,g5⟩:=yZ hlm (.lst (ns.map V.str));rw [e0];clear e0;have S5:=S4.same s5;have S5m:=S5.at g5 m1 m2 m3 S5.nd S5.sb;have pw:ag * 3 ^ m<=27:=aj (cv (ae _) (gi (by decide) (jf m))) ha;refine ⟨_,rfl,_,rfl,_,rfl,_,rfl,_,rfl,_,_,rfl,rfl,p,l,sc,nl,lm,hg,kn,rw,ag,rn,told,deep+1,xs,ns,rfl,S5m,by omega,by omega,pw,fun pa ra rw1 rn1 na H6 h6 _ hr6 S6m d6 o6=>?_⟩;have S6:Sc H6 p l sc nl nh hg kn rw1 ag rn1 xs ns:=S6m.at (S5m.keep o6 S5.hn S5.n3 S5.n4 m4.symm) S5.n3 S5.n4 S5.n5 S5.nd S5.sb
  have oC:cB [p,l,sc,nh] H H6:=cB.in f5 (oB.trans (.of s5)) o6;have ts6:=S5m.ts o6;refine ⟨_,rfl,nh,_,rfl,.inl (bH.of S6.hn),fun ly hly=>?_⟩;obtain ⟨y1,y2,y3,y4⟩:=S6.new hly;have ym:lm≠ly:=aK S6m.hn hly;have f7:H ly=none:=S6.fresh oC hly;obtain ⟨H7,e0,s7,g7⟩:=yZ hly (.lst (ns.map V.str));rw [e0];clear e0;have S7:=S6.same s7;have S7y:=S7.at g7 y1 y2 y3 S7.nd S7.sb;refine ⟨_,rfl,_,rfl,_,rfl,_,rfl,_,rfl,_,_,rfl,rfl,p,l,sc,nl,ly,hg,kn,rw1,ag,rn1,told,deep+1,xs,ns,rfl,S7y,by omega,by omega,pw,fun pb rb rw2 rn2 nb H8 h8 _ hr8 S8y d8 o8=>?_⟩;have S8:Sc H8 p l sc nl nh hg kn rw2 ag rn2 xs ns:=S8y.at (S7y.keep o8 S7.hn S7.n3 S7.n4 y4.symm) S7.n3 S7.n4 S7.n5 S7.nd S7.sb;have gm8:=S7y.keep o8 (s7 _ _ S6m.hn) m1 m2 ym;have oD:cB [p,l,sc,nh] H H8:=cB.in f7 (oC.trans (.of s7)) o8;have ts8:=(TS.of s7).trans (S7y.ts o8);have tm8:=h4.ts (((TS.of s5).trans ts6).trans ts8);have ha8:=ts8 _ _ h6;have hra8:=bI.ts ts8 _ hr6
  have gy8:=S8y.hn;have nda:=S6m.nd;have sba:=S6m.sb;clear S7y S7 S6 S6m S5 S5m S4 S3 o6 o8 oB oC h6 hr6 h4 ts6 ts8 s5 s7 g5 g7 D4 o4 S8y;refine ⟨_,rfl,.inl ⟨rfl,_,bH.of S8.hn⟩,_,rfl,lm,rfl,⟨_,bH.of gm8⟩,fO (K:=K) (a:=lm) (xs:=na.map V.str) (fun i ys σ G=>G=H8/\(∃ v,σ=[v,some (.ref ly),some (.ref nh)])/\ys=((na.take i).filter fun x=>decide (x∈nb) && decide (¬ x∈ns)).map V.str)
   (by rw [ac];have:=gG nda sba;exact aU (by have:=S8.x3;omega)) ⟨rfl,⟨_,rfl⟩,rfl⟩ (by
    rintro i ys σ G ⟨_,_,e⟩;rw [e,ac];exact aj (dz _ _) (by rw [bq];omega)) (by rintro i ys σ G _ ⟨e,_⟩;rw [e];exact bH.of gm8) ?_ ?_⟩
  ·rintro i v ys σ G hv ⟨rfl,⟨v',rfl⟩,rfl⟩;obtain ⟨x,rfl,hx⟩:=kP hv;have ei:oU (V.str x) (nb.map V.str)=decide (x∈nb):=gO _ _;have ej:oU (V.str x) (ns.map V.str)=decide (x∈ns):=gO _ _;rw [bE hx,fz,az];refine ⟨_,rfl,_,rfl,ly,_,rfl,.inl (bH.of gy8),rfl,dM _,_,rfl,?_⟩
   by_cases c:x∈nb
   ·refine bP (ei.trans (ah c)) ⟨_,rfl,_,rfl,nh,_,rfl,.inl (bH.of S8.hn),rfl,dM _,_,rfl,?_⟩
    by_cases c2:x∈ns
    ·refine bC (by rw [ej,ah c2];decide) ⟨rfl,⟨_,rfl⟩,?_⟩;rw [bz (by rw [bo (fun z=>z c2:¬ ¬ x∈ns)];simp)];simp
    ·refine bP (by rw [ej,bo c2];rfl) ⟨_,rfl,rfl,⟨_,rfl⟩,?_⟩;rw [cy (by rw [ah c,ah c2];rfl)];rfl
   ·refine bC (fun z=>c (ao (ei.symm.trans z))) ⟨rfl,⟨_,rfl⟩,?_⟩;rw [bz (by rw [bo c];simp)];simp
  rintro ys σ G ⟨rfl,_,rfl⟩ lx hlx;rw [ac,br];have nd9:=zA (ns:=ns) (nb:=nb) S8.nd nda;have in9:∀ y∈ns++na.filter (fun x=>decide (x∈nb) && decide (¬ x∈ns)),y∈na/\y∈nb:=fun y hy=>by
   rcases yT hy with q | q
   ·exact ⟨d6.up y q,d8.up y q⟩
   ·exact q
  have sb9:jL (ns++na.filter (fun x=>decide (x∈nb) && decide (¬ x∈ns))) xs:=fun y hy=>sba y (in9 y hy).1
  have l9:=gG nd9 sb9;have up9:jL ns (ns++na.filter (fun x=>decide (x∈nb) && decide (¬ x∈ns))):=fun y hy=>er _ hy
  generalize na.filter (fun x=>decide (x∈nb) && decide (¬ x∈ns))=nz at nd9 in9 sb9 l9 up9 ⊢;obtain ⟨H9,e0,s9,g9⟩:=yZ hlx (.lst (nz.map V.str));rw [e0];clear e0;have S9:=S8.same s9;refine ⟨nh,lx,_,_,rfl,rfl,S9.hn,g9,?_,?_⟩
  ·rw [ap] at l9;rw [ac,ac];exact cg (aU (by have:=S9.x3;omega))
  rw [<- az];obtain ⟨S10,o10⟩:=S9.names nd9 sb9;have t10:=(TS.of s9).trans (S9.ts o10);have oE:=oD.trans ((cB.of s9).trans o10);generalize aN H9 nh (.lst ((ns++nz).map V.str))=H10 at S10 t10 oE ⊢;refine ⟨_,rfl,_,rfl,_,rfl,by show 4<=sizeLine;decide,fun q hq=>⟨_,rfl,dW,fun u hu=>?_⟩⟩;have s11:=aB hq (.tup [.str "when",.ref t.p,.ref pa,.ref pb]);have s12:=s11.trans (aB hu (.tup [.ref q,.int told]));have t12:=t10.trans (.of s12);refine k u (.when q pa pb t ra rb) told rw2 rn2 (ns++nz) _ aD ⟨(aB hu _) _ _ aD,tm8.ts t12,t12 _ _ ha8,t12 _ _ h8,bI.ts t12 _ hra8,bI.ts t12 _ hr8⟩ (S10.same s12) (fQ.when ok4 (by omega) nm4 d6 d8 in9 up9) t1 ?_ (oE.trans (.of s12));have:=d6.key;have:=d8.key;omega
 ·refine bC (by simpa using c) ?_;refine ⟨_,rfl,p,l,3,rfl,S3.pot,by decide,by decide,fun kz H4 kz0 kz1 D4 o4=>⟨_,_,rfl,rfl,?_⟩⟩;have S4:=S3.out D4 o4;have oB:=oA.trans (cB.out (sc:=sc) (nh:=nh) o4);obtain ⟨kk,ek,kk1,kk3⟩:∃ kk:Nat,1+kz=(kk:Int)/\1<=kk/\kk<=3:=⟨(1+kz).toNat,by omega,by omega,by omega⟩
  clear S3 oA o4 D4;refine ⟨fun v G=>G=H4/\∃ t':Nat,v= .int t'/\t'<=3/\kk * t'<=left,?_,?_⟩
  ·refine ⟨_,rfl,_,rfl,_,rfl,_,_,rfl,rfl,.inr ⟨_,rfl,_,_,rfl,rfl,.inl ⟨by omega,by omega⟩,rfl,?_⟩⟩
   by_cases cl:1+kz<=(left:Int)
   ·refine ⟨told,by rw [ah cl];show V.int ((told:Int) * 1)=_;rw [Int.mul_one],by omega,?_⟩;have:told=0\/told=1:=by omega
    rcases this with rfl | rfl <;> omega
   ·exact ⟨0,by rw [bo cl];show V.int ((told:Int) * 0)=_;rw [Int.mul_zero];rfl,by decide,by omega⟩
  rintro v G ⟨rfl,told',rfl,t3,t4⟩;refine ⟨_,rfl,sc,_,rfl,S4.g_again,_,rfl,_,_,rfl,rfl,.inr ⟨by omega,by omega⟩,_,rfl,sc,_,rfl,S4.p_again,?_⟩;have pw:ag * kk * 3 ^ m<=27:=by
   have e:ag * 3 ^ (m+1)=ag * 3 * 3 ^ m:=by rw [qh,qe (3 ^ m),ot]
   exact aj (cv (cv (ae _) kk3) (ae _)) (by rw [<- e];exact ha)
  have p1:1<=3 ^ m:=qx (by decide);have ak:ag * kk<=27:=aj (mf _ p1) pw;have ak1:1<=ag * kk:=Nat.mul_pos S4.a1 kk1;obtain ⟨S5,o5⟩:=S4.put (rw':=rw) (ag':=ag * kk) S4.r1 S4.r2 ak1 ak S4.w1;rw [show (ag:Int) * (1+kz)=((ag * kk:Nat):Int) by rw [ek,ml]];have oC:=oB.trans o5;generalize aN G sc (.dK (eR kn rw ((ag * kk:Nat):Int) rn 9 nl))=H5 at S5 oC ⊢;refine ⟨_,rfl,_,rfl,_,rfl,_,rfl,_,rfl,_,_,rfl,rfl,p,l,sc,nl,nh,hg,kn,rw,ag * kk,rn,told',deep+1,xs,ns,rfl,S5,t3,by omega,pw,fun pa ra rw1 rn1 na H6 h6 _ hr6 S6 d6 o6=>?_⟩;refine ⟨_,rfl,sc,_,rfl,S6.g_again,_,rfl,_,_,rfl,rfl,⟨by omega,ir (b:=60) (by omega) (by decide +kernel)⟩,_,rfl,sc,_,rfl,S6.p_again,?_⟩;obtain ⟨S7,o7⟩:=S6.put (rw':=rw1) (ag':=ag) S6.r1 S6.r2 S4.a1 S4.a2 S6.w1;rw [show ((ag * kk:Nat):Int) / (1+kz)=(ag:Int) by rw [ek, <- ma,Nat.mul_div_cancel _ kk1]]
  have t7:=S6.ts o7;have oD:=oC.trans (o6.trans o7);generalize aN H6 sc (.dK (eR kn rw1 ag rn1 hg nl))=H7 at S7 t7 oD ⊢;refine ⟨_,rfl,_,rfl,by show 3<=sizeLine;decide,fun q hq=>⟨_,rfl,_,rfl,_,_,rfl,rfl,.inl ⟨by omega,by omega⟩,dW,fun u hu=>?_⟩⟩;show Q (.ref u) (aN (aN H7 q (.tup [.str "times",.int (1+kz),.ref pa])) u (.tup [.ref q,.int ((1+kz) * (told':Int))]));rw [show (1+kz) * (told':Int)=((kk * told':Nat):Int) by rw [ek,ml],ek];have hu:aN H7 q (.tup [.str "times",.int (1+kz),.ref pa]) u=none:=hu;rw [ek] at hu;have s8:=(aB hq (.tup [.str "times",.int (kk:Int),.ref pa])).trans (aB hu (.tup [.ref q,.int ((kk * told':Nat):Int)]));have t8:=t7.trans (.of s8);refine k u (.times q pa kk ra) (kk * told') rw1 rn1 na _ aD ⟨(aB hu _) _ _ aD,t8 _ _ h6,bI.ts t8 _ hr6⟩ (S7.same s8) (fQ.times kk1 kk3 d6) t4 ?_ (oD.trans (.of s8));have:=d6.key;omega
theorem aK5 (m:Nat) (C_Draw:Cl P w K mg base 1 spDrawP "_law_draw") (C_LIn:Cl P w K mg base (3 * m+14) (oS true m) "_law_inner") (C_LTh:Cl P w K mg base 3 spThrP "_law_throw") (C_Trm:Cl P w K mg base 13 (vK 12) "_law_term") (m_len:mg "len"=none):eU P w K mg base "_law_row" "_law_row" aP2 (3 * m+14+1) ["_law_pot_here","_law_scene","_law_names_here","_law_left","_law_deep"] (oS false m):=by
 refine gZ ["_law_pot_here","_law_scene","_law_names_here","_law_left","_law_deep","_law_form","_law_x","_law_found"] fun H Q nd hr h=>?_
 obtain ⟨p,l,sc,nl,nh,hg,kn,rw,ag,rn,left,deep,xs,ns,rfl,S0,l3,hd,ha,hc,k⟩:=h;have hu:=kU hr;refine ⟨_,(cQ 5 nd (bU C_Draw hr (aA (pv 0) (aM aC)))
  (aF (bO (fV (PW.pt (lS (dF kD (nC hu (pv 1) aG) aC) (jW (fV (PW.pt (gE (dF fA (pv 3) aC) (eY (dF kD (pv 5) aC))))))))) (aE (aO (aR (aA (aR (aA aG (aM (bU C_Trm hr (aA (pv 0) (aA (pv 2) (aM (cU bT (bQ (aA aC (aA aC (aM aC)))) (bU C_Draw hr (aA (pv 0) (aM aC))))))))))) (aM aC))))) aX)
  (aF (bO (fV (PW.pt (gE (dF cP (pv 5) aC) (eY (dF kD (pv 4) aC))))) (aE (aO (bU C_LIn hr (aA (pv 0) (aA (pv 1) (aA (pv 2) (aA (pv 3) (aM (pv 4))))))))) aX)
  (aF (pdp hu (pv 1) aG (aJ cL (nC hu (pv 1) aG) aC))
  (cQ 6 nd (cU bT (nC hu (pv 1) aG) (bU C_Draw hr (aA (pv 0) (aM (lY cC m_len gj (aM (nC hu (pv 1) aG)))))))
  (aF (jA (bO (dF kD (pv 5) aC) (aE (kC 7 nd (aR (aA aG (aA (pv 6) (aM (bU C_Trm hr (aA (pv 0) (aA (pv 2) (aM (cU bT (bQ (aA aC (aA aC (aM aC)))) (bU C_Draw hr (aA (pv 0) (aM aC)))))))))))))) (aE (kC 7 nd (bU C_LTh hr (aA (pv 0) (aA (pv 1) (aM (pv 6)))))))))
  (aF (bO (dF iV (pv 6) (pv 2)) (aE (bR (dG bb cm cp cH (pv 2) (aM (pv 6))))) aX)
  (aE (aO (aR (aA (pv 7) (aM aC)))))))))))),?_⟩
 have hc:0 < left\/0 < rw:=hc;refine ⟨_,rfl,p,l,8,rfl,S0.pot,by decide,by decide,fun fo H1 fo0 fo1 D1 o1=>?_⟩;have S1:=S0.out D1 o1;have oA:cB [p,l,sc,nh] H H1:=cB.out o1;clear D1 o1;refine ⟨fun b G=>G=H1/\(b=true->0 < left)/\(b=false->1<=rw),?_,?_⟩
 ·refine ⟨_,rfl,sc,_,rfl,S1.g_rows,_,_,rfl,rfl,_,rfl,?_⟩
  by_cases c1:(rw:Int) < 1
  ·exact bP (ah c1) ⟨rfl,(fun _=>by omega),(fun z=>nomatch z)⟩
  ·refine bC (by simpa using c1) ⟨fun b G=>G=H1/\(b=true->0 < left),?_,by rintro b G ⟨rfl,h⟩;exact ⟨rfl,h,fun _=>by omega⟩⟩;refine ⟨_,rfl,_,_,rfl,rfl,_,rfl,?_⟩
   by_cases c2:(0:Int) < left
   ·exact bP (ah c2) ⟨_,rfl,_,_,rfl,rfl,_,rfl,rfl,(fun _=>by omega)⟩
   ·exact bC (by simpa using c2) ⟨rfl,(fun z=>nomatch z)⟩
 rintro b G ⟨rfl,hb1,hb2⟩
 cases b with
 |true =>
  have lp:=hb1 rfl;refine bP rfl ?_;refine ⟨_,rfl,_,rfl,by show 3<=sizeLine;decide,fun l0 hl0=>?_⟩;obtain ⟨n1,n2⟩:=dC S1.pot hl0;obtain ⟨H2,e0,s2,h2⟩:=yZ hl0 (.lst [.int 3,.int 7,.int 12]);rw [e0];clear e0;have S2:=S1.same s2;refine ⟨_,rfl,p,l,3,rfl,S2.pot,by decide,by decide,fun z H3 z0 z1 D3 o3=>?_⟩;have S3:=S2.out D3 o3;obtain ⟨w,hw,hwc⟩:=jV (x:=3) (y:=7) (z:=12) z0 z1;refine ⟨l0,_,_,.int w,rfl,rfl,bH.of (cG h2 n1 n2 o3),hw,p,l,nh,ns,w,rfl,S3.pot,S3.hn,S3.n3,S3.n4,S3.ns3,by omega,by rcases hwc with rfl | rfl | rfl <;> decide,by omega,fun t H4 D4 o4 h4 nm4 sz4 ok4=>⟨dW,fun q hq=>⟨dW,fun u hu=>?_⟩⟩⟩;have s5:=(aB hq (.tup [.str "tell",.ref t.p])).trans (aB hu (.tup [.ref q,.int 1]));exact k u (.tell q t) 1 rw rn ns _ aD ⟨(aB hu _) _ _ aD,h4.ts (.of s5)⟩ ((S3.out D4 o4).same s5) (fQ.tell ok4 (by omega) nm4) lp (by omega) (oA.trans ((cB.of s2).trans ((cB.out o3).trans ((cB.out o4).trans (.of s5)))))
 |false =>
 refine bC (by simp) ?_;have rp:=hb2 rfl;refine ⟨fun b G'=>G'=G/\(b=true->1<=m),?_,?_⟩
 ·refine ⟨_,rfl,rfl,_,rfl,tI (fun _=>⟨_,rfl,_,_,rfl,rfl,_,rfl,rfl,fun z=>?_⟩) (fun _=>⟨rfl,(fun z=>nomatch z)⟩)⟩;have z:decide (deep < 3)=true:=z;have:=ao z;omega
 rintro b G' ⟨rfl,hb⟩
 cases b with
 |true =>
  refine bP rfl ?_;exact ⟨_,rfl,_,rfl,_,rfl,_,rfl,_,rfl,p,l,sc,nl,nh,hg,kn,rw,ag,rn,left,deep,xs,ns,rfl,S1,l3,hd,ha,⟨rp,hb rfl⟩,fun u r told rw' rn' ns' H2 h2 hr2 S2 d2 t2 w2 o2=>k u r told rw' rn' ns' H2 h2 hr2 S2 d2 t2 w2 (oA.trans o2)⟩
 |false =>
 refine bC (by simp) ?_;obtain ⟨rw,rfl⟩:∃ r,rw=r+1:=⟨rw - 1,by omega⟩
 have w1:=S1.w1;refine ⟨_,rfl,sc,_,rfl,S1.g_rows,_,_,rfl,rfl,_,rfl,sc,_,rfl,S1.p_rows,?_⟩;obtain ⟨S2,o2⟩:=S1.put (rw':=rw) S1.r1 S1.r2 S1.a1 S1.a2 (by omega);rw [show ((rw+1:Nat):Int) - 1=(rw:Int) by omega];have oB:=oA.trans o2;generalize aN G' sc (.dK (eR kn rw ag rn hg nl))=H2 at S2 oB ⊢;clear S1 oA o2;have x3:=S2.x3;refine ⟨_,rfl,sc,_,rfl,S2.g_names,_,rfl,_,rfl,sc,_,rfl,S2.g_names,nl,_,rfl,.inl (bH.of S2.nm),p,l,_,rfl,S2.pot,by rw [ac];omega,by rw [ac];omega,fun y H3 y0 y1 D3 o3=>?_⟩;obtain ⟨v,hv,ha'⟩:=qZ y0 y1;obtain ⟨x,rfl,hx⟩:=kP hv;have mx:x∈xs:=ay hx;have S3:=S2.out D3 o3;have oC:=oB.trans (cB.out (sc:=sc) (nh:=nh) o3);refine ⟨nl,_,_,.str x,rfl,rfl,bH.of S3.nm,ha',?_⟩;clear hv ha' hx y0 y1 S2 oB D3 o3;refine ⟨fun σ G=>∃ (r:Rw) (rn1:Nat),σ=[some (.ref p),some (.ref sc),some (.ref nh),some (.int left),some (.int deep),some (.int fo),some (.str x),some (.ref r.p)]/\iC G r/\Sc G p l sc nl nh hg kn rw ag rn1 xs ns/\cB [p,l,sc,nh] H G/\∀ ns',jL ns' (x :: ns)->jL ns ns'->fQ xs ns ns' kn (rw+1) rw ag rn rn1 [r] 0 m,?_,?_⟩
 ·refine ⟨_,rfl,_,_,rfl,rfl,_,rfl,tI (fun _=>?_) (fun _=>?_)⟩
  ·refine ⟨_,rfl,_,rfl,_,rfl,by show 3<=sizeLine;decide,fun l0 hl0=>?_⟩;obtain ⟨n1,n2⟩:=dC S3.pot hl0;obtain ⟨H4,e0,s4,h4⟩:=yZ hl0 (.lst [.int 3,.int 7,.int 12]);rw [e0];clear e0;have S4:=S3.same s4;refine ⟨_,rfl,p,l,3,rfl,S4.pot,by decide,by decide,fun z H5 z0 z1 D5 o5=>?_⟩;have S5:=S4.out D5 o5;obtain ⟨w,hw,hwc⟩:=jV (x:=3) (y:=7) (z:=12) z0 z1;refine ⟨l0,_,_,.int w,rfl,rfl,bH.of (cG h4 n1 n2 o5),hw,p,l,nh,ns,w,rfl,S5.pot,S5.hn,S5.n3,S5.n4,S5.ns3,by omega,by rcases hwc with rfl | rfl | rfl <;> decide,by omega,fun t H6 D6 o6 h6 nm6 sz6 ok6=>⟨by show 3<=sizeLine;decide,fun q hq=>?_⟩⟩;have s7:=aB hq (.tup [.str "let",.str x,.ref t.p]);exact ⟨.lt q x t,rn,rfl,⟨aD,h6.ts (.of s7)⟩,(S5.out D6 o6).same s7,oC.trans ((cB.of s4).trans ((cB.out o5).trans ((cB.out o6).trans (.of s7)))),fun ns' h' up=>fQ.lt ok6 (by omega) nm6 mx h' up (ae _)⟩
  ·exact ⟨_,rfl,_,rfl,_,rfl,p,l,sc,nl,nh,hg,kn,rw,ag,rn,xs,ns,x,rfl,S3,fun pt T a3 wss rn1 H4 h4 ok4 ak4 w4 S4 o4=>⟨.thr pt x T a3 wss,rn1,rfl,h4,S4,oC.trans o4,fun ns' h' up=>fQ.thr ok4 ak4 mx h' up (ae _) w4⟩⟩
 rintro σ G ⟨r,rn1,rfl,hr4,S4,o4,d4⟩;have ei:oU (V.str x) (ns.map V.str)=decide (x∈ns):=gO _ _;refine ⟨_,rfl,_,rfl,nh,_,rfl,.inl (bH.of S4.hn),rfl,dM _,_,rfl,?_⟩
 by_cases c:x∈ns
 ·refine bC (by rw [ei,ah c];decide) ?_;refine ⟨_,rfl,dW,fun u hu=>?_⟩;have s5:=aB hu (.tup [.ref r.p,.int 0]);exact k u r 0 rw rn1 ns _ aD (iC.ts (.of s5) _ hr4) (S4.same s5) (d4 ns (fun y hy=>aq _ hy) fun y hy=>hy) (bh _) (by omega) (o4.trans (.of s5))
 ·refine bP (by rw [ei,bo c];rfl) ?_;refine ⟨_,rfl,.inl ⟨rfl,_,bH.of S4.hn⟩,_,rfl,nh,_,_,rfl,rfl,S4.hn,by rw [ac];have:=S4.ns3;exact aU (by omega),?_⟩;have sb:jL (ns++[x]) xs:=fun y hy=>by
   rcases dj.mp hy with q | q
   ·exact S4.sb y q
   ·rw [cq.mp q];exact mx
  have nd:(ns++[x]).Nodup:=qu.mpr ⟨S4.nd,by simp,fun a ha b hb e=>c (by rw [<- List.mem_singleton.mp hb, <- e];exact ha)⟩;obtain ⟨S5,o5⟩:=S4.names nd sb;have t5:=S4.ts o5;have e5:(ns.map V.str++[V.str x])=(ns++[x]).map V.str:=by rw [az];rfl
  rw [e5];have oD:=o4.trans o5;generalize aN G nh (.lst ((ns++[x]).map V.str))=H5 at S5 t5 oD ⊢;refine ⟨_,rfl,dW,fun u hu=>?_⟩;have s6:=aB hu (.tup [.ref r.p,.int 0]);refine k u r 0 rw rn1 (ns++[x]) _ aD (iC.ts (t5.trans (.of s6)) _ hr4) (S5.same s6) (d4 _ (fun y hy=>?_) fun y hy=>er _ hy) (bh _) (by omega) (oD.trans (.of s6));rcases dj.mp hy with q | q
  ·exact aq _ q
  ·rw [cq.mp q];exact bg
theorem aI0 (m:Nat) (C_LRw:Cl P w K mg base (3 * m+15) (oS false m) "_law_row") (C_Draw:Cl P w K mg base 1 spDrawP "_law_draw") (m_range:mg "range"=none) (m_tuple:mg "tuple"=none):eU P w K mg base "_law_rows" "_law_rows" aM4 (3 * m+15+1) ["_law_pot_here","_law_scene","_law_names_here","_law_left","_law_deep"] (nZ (m+1)):=by
 refine gZ ["_law_pot_here","_law_scene","_law_names_here","_law_left","_law_deep","_law_rows_here","_law_turn","_law_row_here","_law_told"] fun H Q nd hr h=>?_
 obtain ⟨p,l,sc,nl,nh,hg,kn,rw,ag,rn,left,deep,xs,ns,rfl,S0,l3,hd,ha,k⟩:=h;have hu:=kU hr;refine ⟨_,(cQ 5 nd (bQ cA)
  (aF (nJ (bV (by rfl) m_range (aM aC)) (eX 6 nd)
  (aE (bO (fV (PW.pt (lS (dF fA (pv 3) aC) (jW (fV (PW.pt (gE (dF fA (nC hu (pv 1) aG) aC) (eY (dF fA (bU C_Draw hr (aA (pv 0) (aM aC))) aC))))))))) (aF (jS (bU C_LRw hr (aA (pv 0) (aA (pv 1) (aA (pv 2) (aA (pv 3) (aM (pv 4))))))) (nR rfl (dB (eX 7 nd) (dB (eX 8 nd) kM))))
  (aF (bR (dG bb cm cp cH (pv 5) (aM (pv 7))))
  (aE (kC 3 nd (aJ cL (pv 3) (pv 8)))))) aX)))
  (aE (aO (uS bX m_tuple cz (aM (aJ lE (pv 5) (aJ aK9 (bQ (aM (aR (aA aG (aM (aR (aA aG (aM aC)))))))) (pv 3))))))))),?_⟩
 refine ⟨bh _,fun lr hlr=>?_⟩;obtain ⟨n1,n2,n3,n4⟩:=S0.new hlr;have s1:=aB hlr (.lst []);have g1:aN H lr (.lst []) lr=some (.lst (aQ [])):=aD;generalize aN H lr (.lst [])=H1 at s1 g1 ⊢;have S1:=S0.same s1;have w1:=S0.w1;refine ⟨9,rfl,by decide,by decide,fX (n:=9) (fun i σ G=>∃ (rs:List Rw) (left' rw' rn':Nat) (ns':List Str) (v6 v7 v8:Option V),σ=[some (.ref p),some (.ref sc),some (.ref nh),some (.int left'),some (.int deep),some (.ref lr),v6,v7,v8]/\Sc G p l sc nl nh hg kn rw' ag rn' xs ns'/\cB [p,l,sc,nh] H G/\G lr=some (.lst (aQ rs))/\bI G rs/\rs.length<=i/\fQ xs ns ns' kn rw rw' ag rn rn' rs (left - left') m/\left'<=left/\(left'=0\/i+left' + rw'<=left+rw))
  ⟨[],left,rw,rn,ns,_,_,_,rfl,S1,.of s1,g1,trivial,ae _,by rw [Nat.sub_self];exact fQ.nil,ae _,.inr (by omega)⟩ ?_ ?_⟩
 ·rintro D' N i hN σ G hi ⟨rs,left',rw',rn',ns',v6,v7,v8,rfl,S2,o2,g2,hr2,hl2,d2,ll,hp⟩;refine ⟨fun b G'=>Sc G' p l sc nl nh hg kn rw' ag rn' xs ns'/\cB [p,l,sc,nh] G G'/\(b=true->0 < left'\/0 < rw')/\(b=false->left'=0),?_,?_⟩
  ·refine ⟨_,rfl,_,_,rfl,rfl,_,rfl,?_⟩
   by_cases c:(0:Int) < left'
   ·exact bP (ah c) ⟨S2,.refl _,(fun _=> .inl (by omega)),(fun z=>nomatch z)⟩
   ·refine bC (by simpa using c) ⟨fun b G'=>Sc G' p l sc nl nh hg kn rw' ag rn' xs ns'/\cB [p,l,sc,nh] G G'/\(b=true->0 < rw'),?_,by rintro b G' ⟨h1,h2,h3⟩;exact ⟨h1,h2,(fun z=> .inr (h3 z)),(fun _=>by omega)⟩⟩;refine ⟨_,rfl,sc,_,rfl,S2.g_rows,_,_,rfl,rfl,_,rfl,?_⟩
    by_cases c2:(0:Int) < rw'
    ·exact bP (ah c2) ⟨_,rfl,p,l,3,rfl,S2.pot,by decide,by decide,fun z H3 z0 z1 D3 o3=>⟨_,_,rfl,rfl,_,rfl,S2.out D3 o3,cB.out o3,(fun _=>by omega)⟩⟩
    ·exact bC (by simpa using c2) ⟨S2,.refl _,(fun z=>nomatch z)⟩
  rintro b G' ⟨S3,o3,hb1,hb2⟩;have g3:=S2.keep o3 g2 n1 n2 n4;have hr3:=bI.ts (S2.ts o3) rs hr2
  cases b with
  |false =>
   refine bC (by simp) ?_;exact hN _ _ ⟨rs,left',rw',rn',ns',_,_,_,rfl,S3,o2.trans o3,g3,hr3,by omega,d2,ll,.inl (hb2 rfl)⟩
  |true =>
   refine bP rfl ?_;have hc:=hb1 rfl;refine ⟨_,rfl,_,rfl,_,rfl,_,rfl,_,rfl,p,l,sc,nl,nh,hg,kn,rw',ag,rn',left',deep,xs,ns',rfl,S3,by omega,hd,ha,hc,fun u r told rw2 rn2 ns2 H4 h4 hr4 S4 d4 t4 w4 o4=>?_⟩;refine ⟨u,_,rfl,bA.of h4,rfl,_,_,rfl,_,_,rfl,rfl,?_⟩;have g4:=S3.keep o4 g3 n1 n2 n4;have hrs4:=bI.ts (S3.ts o4) rs hr3;refine ⟨_,rfl,.inl ⟨rfl,_,bH.of g4⟩,_,rfl,lr,_,_,rfl,rfl,g4,by unfold aQ;rw [ac];exact aU (by omega),?_⟩;have e5:aQ rs++[V.ref r.p]=aQ (rs++[r]):=by unfold aQ;rw [az];rfl
   rw [e5];have S5:Sc (aN H4 lr (.lst (aQ (rs++[r])))) p l sc nl nh hg kn rw2 ag rn2 xs ns2:=⟨oM S4.pot n1 n2,(aH (iW S4.sc g4 (by intro z;cases z))).trans S4.sc,(aH n3.symm).trans S4.nm,(aH n4.symm).trans S4.hn,S4.n1,S4.n2,S4.n3,S4.n4,S4.n5,S4.k1,S4.k3,S4.x3,S4.r1,S4.r2,S4.a1,S4.a2,S4.w1,S4.nd,S4.sb,S4.h2,S4.h9⟩
   have t5:TS H4 (aN H4 lr (.lst (aQ (rs++[r])))):=TS.lst g4;have o5:cB [p,l,sc,nh] H (aN H4 lr (.lst (aQ (rs++[r])))):=fun b v e n=>by rw [aH (aK e hlr)];exact (o2.trans (o3.trans o4)) b v e n
   refine ⟨_,rfl,_,rfl,_,_,rfl,rfl,?_⟩;refine hN _ _ ⟨rs++[r],left' - told,rw2,rn2,ns2,some (.int (0+i)),some (.ref r.p),some (.int told),by rw [show ((left' - told:Nat):Int)=(left':Int) - told by omega];rfl,S5,o5,aD,bI.app (bI.ts t5 rs hrs4) ⟨iC.ts t5 r hr4,trivial⟩,by rw [ap];show rs.length+1<=_;omega,(d2.app d4).less (by omega),by omega,?_⟩;rcases hp with q | q
   ·exact .inl (by omega)
   ·exact .inr (by omega)
 ·rintro σ G ⟨rs,left',rw',rn',ns',v6,v7,v8,rfl,S2,o2,g2,hr2,hl2,d2,ll,hp⟩;have l0:left'=0:=by rcases hp with q | q <;> omega
  subst l0;refine ⟨_,rfl,dW,fun t1 h1=>⟨dW,fun t2 h2=>⟨iY,fun t3 h3=>?_⟩⟩⟩;have s3:=(aB h1 (.tup [.str "num",.int 1])).trans ((aB h2 (.tup [.str "tell",.ref t1])).trans (aB h3 (.lst [.ref t2])));have g3:=s3 _ _ g2;refine ⟨_,rfl,t3,0,_,rfl,rfl,aD,by decide,by decide,by show 1 * 0<=sizeLine;decide,fun t4 h4=>?_⟩;have s4:=s3.trans (aB h4 (.lst (List.replicate (0:Int).toNat [V.ref t2]).flatten));refine ⟨lr,t4,_,_,rfl,rfl,s4 _ _ g2,aD,by unfold aQ;rw [ac];show rs.length+0<=_;exact cg (aU (by omega)),fun t5 h5=>?_⟩;have e5:aQ rs++(List.replicate (0:Int).toNat [V.ref t2]).flatten=aQ rs:=dm _;rw [e5];refine ⟨t5,_,rfl,.inl ⟨bH.of aD,fun t6 h6=>?_⟩⟩;have s6:=s4.trans ((aB h5 (.lst (aQ rs))).trans (aB h6 (.tup (aQ rs))));exact k t6 rs rw' rn' ns' _ aD hl2 (bI.ts (.of s6) rs hr2) (S2.same s6) d2 (o2.trans (.of s6))
theorem aF5 (C_LNs:Cl P w K mg base 3 spNamesP "_law_names") (C_Draw:Cl P w K mg base 1 spDrawP "_law_draw") (C_LTh:Cl P w K mg base 3 spThrP "_law_throw") (C_LRs:Cl P w K mg base 25 (nZ 4) "_law_rows") (m_len:mg "len"=none) (m_tuple:mg "tuple"=none):eU P w K mg base "_law_program" "_law_program" aP6 26 ["_law_pot_here","_law_most","_law_runs","_law_high"] spPrgP:=by
 refine gZ ["_law_pot_here","_law_most","_law_runs","_law_high","_law_kinds","_law_scene","_law_names_here","_law_x","_law_ahead"] fun H Q nd hr h=>?_
 obtain ⟨p,l,hg,rfl,h2,h9,D,k⟩:=h;have hu:=kU hr;refine ⟨_,(cQ 4 nd (bU C_LNs hr (aA (pv 0) (aM (aJ aW aC (bU C_Draw hr (aA (pv 0) (aM (pv 1))))))))
  (cQ 5 nd (yW (fH aG (lY cC m_len gj (aM (pv 4))) (fH aG aC (fH aG aC (fH aG (pv 2) (fH aG (pv 3) (fH aG (bU C_LNs hr (aA (pv 0) (aM aC))) yI)))))) rfl rfl (by decide) (by decide))
  (cQ 6 nd (bQ cA)
  (cQ 7 nd (cU bT (nC hu (pv 5) aG) aC)
  (cQ 8 nd (aR cA)
  (aF (jA (bO (dF fA (bU C_Draw hr (aA (pv 0) (aM aC))) aC) (cQ 8 nd (aR (aM (bU C_LTh hr (aA (pv 0) (aA (pv 5) (aM (pv 7)))))))
  (aE (bR (dG bb cm cp cH (pv 6) (aM (pv 7)))))) aX))
  (aE (aO (aR (aA (uS bX m_tuple cz (aM (pv 4))) (aM (aJ oK (pv 8) (bU C_LRs hr (aA (pv 0) (aA (pv 5) (aA (pv 6) (aA (aJ aW aC (bU C_Draw hr (aA (pv 0) (aM aC)))) (aM aC)))))))))))))))))),?_⟩
 refine ⟨_,rfl,_,rfl,_,rfl,p,l,3,rfl,D,by decide,by decide,fun z H1 z0 z1 D1 o1=>⟨_,_,rfl,rfl,?_⟩⟩;refine ⟨p,l,1+z,rfl,D1,by omega,by omega,fun lk ks H2 f2 h2 l2 D2 o2 n1 n2=>?_⟩;intro d hd;have fd:H d=none:=jP D1 o1 (jP D2 o2 hd);have s3:=aB hd (.dK []);have g3:aN H2 d (.dK []) d=some (.dK []):=aD;have h3:=s3 _ _ h2;have D3:=D2.same s3;obtain ⟨e1,e2⟩:=dC D2 hd;generalize aN H2 d (.dK [])=H3 at s3 g3 h3 D3 ⊢;refine ⟨_,rfl,lk,_,rfl,.inl (bH.of h3),_,rfl,_,rfl,_,rfl,p,l,3,rfl,D3,by decide,by decide,fun nl xs H4 f4 h4 l4 D4 o4 m1 m2=>?_⟩;refine ⟨o4 _ _ g3 e1 e2,eR ks.length 4 1 60 hg nl,by rw [ac];rfl,by show 6<=15;decide,?_⟩;rw [wD];have ed:d≠nl:=aK g3 f4;have oA:Out p l H (aN H4 d (.dK (eR ks.length 4 1 60 hg nl))):=Mine.Out.new (o1.trans (o2.trans ((Out.of s3).trans o4))) fd;have D5:fZ (aN H4 d (.dK (eR ks.length 4 1 60 hg nl))) p l:=by
  obtain ⟨a,b,c,q⟩:=D4;exact ⟨a,b,c,(aH e1.symm).trans q.pc,(aH e2.symm).trans q.lc,q.ne,q.s0,q.s1,q.n0,q.l0⟩
 have lkd:lk≠d:=aK h2 hd;have h5:aN H4 d (.dK (eR ks.length 4 1 60 hg nl)) lk=some (.lst (ks.map V.str)):=(aH lkd).trans (o4 _ _ h3 n1 n2);have g5:aN H4 d (.dK (eR ks.length 4 1 60 hg nl)) d=some (.dK (eR ks.length 4 1 60 hg nl)):=aD;have h5n:=(aH (o:= .dK (eR ks.length 4 1 60 hg nl)) ed.symm).trans h4;have nlk:lk≠nl:=aK h3 f4;generalize aN H4 d (.dK (eR ks.length 4 1 60 hg nl))=H5 at oA D5 h5 g5 h5n ⊢;clear h2 h3 g3 s3 o1 o2 o4 D1 D2 D3 D4 h4 f4 f2 hd;refine ⟨bh _,fun nh hnh=>?_⟩;obtain ⟨q1,q2⟩:=dC D5 hnh;have fh:H nh=none:=jP D5 oA hnh;have s6:=aB hnh (.lst []);have h6:aN H5 nh (.lst []) nh=some (.lst (([]:List Str).map V.str)):=aD;have lkh:lk≠nh:=aK h5 hnh;have nhl:nh≠nl:=(aK h5n hnh).symm;generalize aN H5 nh (.lst [])=H6 at s6 h6 ⊢;have S6:Sc H6 p l d nl nh hg ks.length 4 1 60 xs []:=⟨D5.same s6,s6 _ _ g5,s6 _ _ h5n,h6,m1,m2,q1,q2,nhl,by omega,by omega,l4,by decide,by decide,by decide,by decide,by decide,List.nodup_nil,(fun _ z=>nomatch z),h2,h9⟩
 have hk6:=s6 _ _ h5;have oB:=oA.trans (Out.of s6);clear oA D5 h5 g5 h5n s6 h6;obtain ⟨x,xr,rfl⟩:∃ x xr,xs=x :: xr:=by
  cases xs with
  |nil=>cases l4
  |cons x xr=>exact ⟨x,xr,rfl⟩
 refine ⟨_,rfl,d,_,rfl,S6.g_names,nl,_,_,.str x,rfl,rfl,bH.of S6.nm,yF _ _,?_⟩;refine ⟨bh _,fun t0 ht0=>?_⟩;have s7:=aB ht0 (.tup []);have h7:aN H6 t0 (.tup []) t0=some (.tup (aQ [])):=aD;generalize aN H6 t0 (.tup [])=H7 at s7 h7 ⊢;have S7:=S6.same s7;refine ⟨fun σ G=>∃ (ta:Addr) (ars:List Rw) (ns1:List Str) (rn1:Nat),σ=[some (.ref p),some (.int 3),some (.int 60),some (.int hg),some (.ref lk),some (.ref d),some (.ref nh),some (.str x),some (.ref ta)]/\G ta=some (.tup (aQ ars))/\bI G ars/\Sc G p l d nl nh hg ks.length 4 1 rn1 (x :: xr) ns1/\cB [p,l,d,nh] H6 G/\fQ (x :: xr) [] ns1 ks.length 5 4 1 60 rn1 ars 0 3/\ars.length<=1,?_,?_⟩
 ·refine ⟨_,rfl,p,l,8,rfl,S7.pot,by decide,by decide,fun y H8 y0 y1 D8 o8=>⟨_,_,rfl,rfl,_,rfl,tI (fun _=>?_) (fun _=>?_)⟩⟩
  ·have S8:=S7.out D8 o8;refine ⟨_,rfl,_,rfl,_,rfl,p,l,d,nl,nh,hg,ks.length,4,1,60,x :: xr,[],x,rfl,S8,fun pt T a3 wss rn1 H9 h9 ok9 ak9 w9 S9 o9=>⟨iY,fun ta hta=>?_⟩⟩;have s10:=aB hta (.tup [.ref pt]);have h10:aN H9 ta (.tup [.ref pt]) ta=some (.tup (aQ [.thr pt x T a3 wss])):=aD;generalize aN H9 ta (.tup [.ref pt])=H10 at s10 h10 ⊢;have S10:=S9.same s10;refine ⟨_,rfl,.inl ⟨rfl,_,bH.of S10.hn⟩,_,rfl,nh,_,_,rfl,rfl,S10.hn,by show 0 < sizeLine;decide,?_⟩;obtain ⟨S11,o11⟩:=S10.names (ns':=[x]) (by simp) (fun y hy=>by rw [List.mem_singleton.mp hy];exact bg);have t11:=S10.ts o11;exact ⟨ta,[.thr pt x T a3 wss],[x],rn1,rfl,t11 _ _ h10,⟨iC.ts ((TS.of s10).trans t11) _ h9,trivial⟩,S11,(cB.of s7).trans ((cB.out o8).trans (o9.trans ((cB.of s10).trans o11))),fQ.thr ok9 ak9 bg (fun y hy=>hy) (fun _ z=>nomatch z) (by decide) w9,ae _⟩
  ·exact ⟨t0,[],[],60,rfl,S7.pot.ts o8 _ _ h7,trivial,S7.out D8 o8,(cB.of s7).trans (cB.out o8),fQ.nil.more (by decide),bh _⟩
 rintro σ G ⟨ta,ars,ns1,rn1,rfl,h8,hr8,S8,o8,d8,la⟩;have hk8:=S6.keep o8 hk6 n1 n2 lkh;refine ⟨_,rfl,lk,_,rfl,.inl ⟨bH.of hk8,fun kt hkt=>?_⟩⟩;obtain ⟨H9,e0,s9,h9⟩:=yZ hkt (.tup (ks.map V.str));rw [e0];clear e0;have S9:=S8.same s9;refine ⟨_,rfl,_,rfl,_,rfl,_,rfl,_,rfl,p,l,3,rfl,S9.pot,by decide,by decide,fun y H10 y0 y1 D10 o10=>⟨_,_,rfl,rfl,?_⟩⟩;have S10:=S9.out D10 o10;obtain ⟨lf,el,lf3⟩:∃ lf:Nat,1+y=(lf:Int)/\lf<=3:=⟨(1+y).toNat,by omega,by omega⟩
 refine ⟨p,l,d,nl,nh,hg,ks.length,4,1,rn1,lf,0,x :: xr,ns1,by rw [<- el];rfl,S10,lf3,by decide,by decide,fun tr rs rw2 rn2 ns2 H11 h11 l11 hr11 S11 d11 o11=>?_⟩;have t11:=(TS.of s9).trans ((S9.pot.ts o10).trans (S10.ts o11));have oC:=o8.trans ((cB.of s9).trans ((cB.out o10).trans o11));have k11:=((S9.pot.ts o10).trans (S10.ts o11)) _ _ h9;refine ⟨ta,tr,_,_,rfl,rfl,t11 _ _ h8,h11,?_,fun pr H12 s12 h12=>⟨dW,fun pg hpg=>?_⟩⟩
 ·unfold aQ;rw [ac,ac];exact cg (aU (by omega))
 have e12:aQ ars++aQ rs=aQ (ars++rs):=by unfold aQ;rw [az]
 rw [e12] at h12;have s13:=aB hpg (.tup [.ref kt,.ref pr]);have s12:=s12.trans s13;exact k pg kt pr ks (x :: xr) (ars++rs) _ aD (s12 _ _ k11) (by omega) (by omega) (s13 _ _ h12) (bI.app (bI.ts (t11.trans (.of s12)) _ hr8) (bI.ts (.of s12) _ hr11)) ((d8.app d11).pg (by omega) S11.r1 l4) ((S11.same s12).pot) ((Mine.Out.in oB fd fh oC).trans (.of s12))
theorem aH3  : eU P w K mg base "_law_sums" "_law_sums" aU9 1 ["_law_row_here"] spLSm:=by
 refine gZ ["_law_row_here"] fun H Q nd hr h=>?_
 obtain ⟨p,x,T,a3,wss,rfl,h,k⟩:=h;refine ⟨_,(aF (bO (dF cP (cU aZ (pv 0) aC) aG) (aE (aO (cU aZ (pv 0) aC))) aX)
  (aF (bO (dF cP (cU aZ (pv 0) aC) aG) (aE (aO (cU aZ (pv 0) aC))) aX)
  (aE (aO (aR (aM (cU aZ (pv 0) aC))))))),?_⟩
 obtain ⟨hx,hs⟩:=h
 cases T with
 |lad a b lo hi =>
  obtain ⟨st,hr',_⟩:=hx;rcases hs with ⟨_,w,ws,rfl,hw,rfl⟩ | ⟨e,_⟩
  ·refine ⟨_,rfl,p,_,_,.str "ladder",rfl,rfl,bA.of hr',rfl,rfl,_,rfl,bC (by decide +kernel) ?_⟩;refine ⟨_,rfl,p,_,_,.str "ladder",rfl,rfl,bA.of hr',rfl,rfl,_,rfl,bC (by decide +kernel) ?_⟩;refine ⟨_,rfl,p,_,_,.ref w,rfl,rfl,bA.of hr',rfl,iY,fun q hq=>?_⟩;exact k q _ (aB hq _) ⟨_,aD,⟨w,rfl,(aB hq _) _ _ hw⟩,trivial⟩
  ·cases e
 |fla r lo hi =>
  have hr':=hx;rcases hs with ⟨_,w,ws,rfl,hw,rfl⟩ | ⟨e,_⟩
  ·refine ⟨_,rfl,p,_,_,.str "flat",rfl,rfl,bA.of hr',rfl,rfl,_,rfl,bC (by decide +kernel) ?_⟩;refine ⟨_,rfl,p,_,_,.str "flat",rfl,rfl,bA.of hr',rfl,rfl,_,rfl,bC (by decide +kernel) ?_⟩;refine ⟨_,rfl,p,_,_,.ref w,rfl,rfl,bA.of hr',rfl,iY,fun q hq=>?_⟩;exact k q _ (aB hq _) ⟨_,aD,⟨w,rfl,(aB hq _) _ _ hw⟩,trivial⟩
  ·cases e
 |cho a b lo hi =>
  obtain ⟨st,hr',_⟩:=hx;rcases hs with ⟨e,_⟩ | ⟨_,sm,rfl,hs⟩
  ·cases e
  ·refine ⟨_,rfl,p,_,_,.str "choose",rfl,rfl,bA.of hr',rfl,rfl,_,rfl,bC (by decide +kernel) ?_⟩;refine ⟨_,rfl,p,_,_,.str "choose",rfl,rfl,bA.of hr',rfl,rfl,_,rfl,bP (by decide +kernel) ?_⟩;exact ⟨_,rfl,p,_,_,.ref sm,rfl,rfl,bA.of hr',rfl,k sm _ (.refl _) hs⟩
 |fst pa qa pb qb mk lo hi =>
  obtain ⟨sa,sb,sm',e',hr',_⟩:=hx;rcases hs with ⟨e,_⟩ | ⟨_,sm,rfl,hs⟩
  ·cases e
  ·have e':=V.ref.inj e';subst e';refine ⟨_,rfl,p,_,_,.str "first",rfl,rfl,bA.of hr',rfl,rfl,_,rfl,bP (by decide +kernel) ?_⟩;exact ⟨_,rfl,p,_,_,.ref sm,rfl,rfl,bA.of hr',rfl,k sm _ (.refl _) hs⟩
end
theorem all_mk {l:PySem.W.OpenLaw}{w:World}{K:PySem.W.Frag}{h:Heap}{mg:Str->Option Value}{fa:Addr}(X:K.In h) (G:h.Ns mainGlobals mg) (hfa:mg "law"=some (.ref fa))
  {xcT:Addr}{odT:Option Addr}{itsT:Array Value}{nT:Nat}{slT:Array (Option Value)}{xcD xND xc1 xN1:Addr}{nmD qnD nm1 qn1:Str}{bsD subD bs1 sub1:List Value}{snD sn1:List Str}{abD ab1:Bool}{colD col1:Option Bool}{ddD dd1:Option Addr}{kaD kbD kcD kdD keD ka1 kb1 kc1 kd1 ke1:Option Value}{oeD oe1:Option Addr}{ooD oo1:Value}{esD es1:Array DictEntry}{enD en1:Nat}{xlD xl1:Array (Option Value)}{iI:Addr}{ioI iaI:Option Addr}{isI:Array (Option Value)}{ikI idI ipI icI itI:Value}
  (t2:TopAt K "has_one_sum" aT0)
  (t3:TopAt K "place_of_sums" vJ)
  (t4:TopAt K "sums_of" aC0)
  (t5:TopAt K "range_of_sums" aO0)
  (t6:TopAt K "as_steps" aP5)
  (t7:TopAt K "inner_steps" aU7)
  (t8:TopAt K "steps_of" aO8)
  (t9:TopAt K "rows_in" aU8)
  (t10:TopAt K "throws_in" aR4)
  (t11:TopAt K "top_of_row" aS4)
  (t12:TopAt K "tops" aR2)
  (t13:TopAtD K "all_crowds" aT6 400)
  (t14:TopAt K "all_tables" aV0)
  (t15:TopAtD K "least_rest_of" aQ8 400)
  (t16:TopAtD K "least_factor_of" aU6 400)
  (t17:TopAt K "_law_pot" aR9)
  (t18:TopAt K "_law_draw" aB5)
  (t19:TopAt K "_law_name" aQ4)
  (t20:TopAt K "_law_names" aM9)
  (t21:TopAt K "_law_term" aM6)
  (t22:TopAt K "_law_sum" aS0)
  (t23:TopAt K "_law_steep" aR0)
  (t24:TopAt K "_law_again" aT1)
  (t25:TopAt K "_law_few" aQ5)
  (t26:TopAt K "_law_bounds" aV2)
  (t27:TopAt K "_law_throw" aQ0)
  (t28:TopAt K "_law_inner" aP0)
  (t29:TopAt K "_law_row" aP2)
  (t30:TopAt K "_law_rows" aM4)
  (t31:TopAt K "_law_program" aP6)
  (t32:TopAt K "_law_throws" aN5)
  (t33:TopAt K "_law_sums" aU9)
  (t34:TopAt K "_law_tops" aR8)
  (t35:TopAt K "_law_crowds" aS7)
  (t36:TopAt K "_law_whole" aR6)
  (t37:TopAt K "_law_are_tuples" aU1)
  (t38:TopAt K "_law_refused" aO6)
  (t39:TopAt K "law" uY)
  (z_reversed:PySem.W.nsIn K mainGlobals "reversed"=some none)
  (z_max:PySem.W.nsIn K mainGlobals "max"=some none)
  (z_tuple:PySem.W.nsIn K mainGlobals "tuple"=some none)
  (z_range:PySem.W.nsIn K mainGlobals "range"=some none)
  (z_len:PySem.W.nsIn K mainGlobals "len"=some none)
  (z_min:PySem.W.nsIn K mainGlobals "min"=some none)
  (z_int:PySem.W.nsIn K mainGlobals "int"=some none)
  (z_list:PySem.W.nsIn K mainGlobals "list"=some none)
  (z_isinstance:PySem.W.nsIn K mainGlobals "isinstance"=some none)
  (z_bool:PySem.W.nsIn K mainGlobals "bool"=some none)
  (qT:PySem.W.nsIn K mainGlobals "THROWS"=some (some (.ref xcT)))
  (uT:K.lookup xcT=some ⟨.type "tuple",odT,.seq itsT nT,slT⟩)
  (vT:aV (iB.map V.str) itsT.toList)
  (qD:PySem.W.nsIn K mainGlobals "ThrowError"=some (some (.ref xcD)))
  (q1:PySem.W.nsIn K mainGlobals "TooMany"=some (some (.ref xc1)))
  (uD:K.lookup xcD=some (excClassObj nmD qnD xcD xND bsD (yD) true snD subD abD colD ddD kaD kbD kcD kdD keD "ValueError.__new__"))
  (u1:K.lookup xc1=some (excClassObj nm1 qn1 xc1 xN1 bs1 (.ref xcD :: yD) true sn1 sub1 ab1 col1 dd1 ka1 kb1 kc1 kd1 ke1 "ValueError.__new__"))
  (tnD:K.lookup xND=some ⟨ooD,oeD,.dict esD enD,xlD⟩)
  (ttD:(esD.toList.all fun e=>match e.key with | .str _ _=>true | _=>false)=true)
  (niD:PySem.W.nsIn K xND "__init__"=some none)
  (tn1:K.lookup xN1=some ⟨oo1,oe1,.dict es1 en1,xl1⟩)
  (tt1:(es1.toList.all fun e=>match e.key with | .str _ _=>true | _=>false)=true)
  (ni1:PySem.W.nsIn K xN1 "__init__"=some (some (.ref iI)))
  (sa1:PySem.W.findIn K (.ref xc1) "__setattr__"=some (some (.builtin "object.__setattr__")))
  (ga1:PySem.W.findIn K (.ref xc1) "__getattribute__"=some (some (.builtin "BaseException.__getattribute__")))
  (gh1:PySem.W.findIn K (.ref xc1) "__getattr__"=some none)
  (no1:PySem.W.findIn K (.ref xc1) "most"=some none)
  (kp1:PySem.W.keepIn K (.ref xc1)=true)
  (be1:PySem.W.subIn K (.ref xc1) (.type "BaseException")=some true)
  (ty1:PySem.W.typeIn K (.ref xc1)=some (.type "type"))
  (liI:K.lookup iI=some ⟨.type "function",ioI,.func (PySem.W.fnOf "__init__" "TooMany.__init__" (bD wZ) (aS wZ) (aI wZ) .none ikI idI ipI iaI icI itI),isI⟩)
  (ciI:PySem.W.codeIn K icI "TooMany.__init__"=true)
  (kiI:PySem.W.keepIn K (.ref iI)=true) :
  ∃ fd:FuncData,(∀ (s:Shared) (v:Value),BindsTo s fd ⟨[v],[]⟩ [("_law_script",v)])/\∀ base:Heap,K.In base->base.Ns mainGlobals mg->fU l.prog w K mg base qM 27 fa fd ["_law_script"] (sI K):=by
 obtain ⟨_,la,oc,od,kV,dc,pm,an,cd,ct,sl,lk,lc,lp⟩:=t39
 cases hfa.symm.trans (PySem.W.mg_of X G la)
 refine ⟨PySem.W.fnOf "law" "law" (bD uY) (aS uY) (aI uY) .none kV dc pm an cd ct,fun s v=> .of_eq rfl,fun base _ _=>?_⟩;have Z:Zx l.prog w K mg base:= .of X G;have y_reversed:=Z.no _ z_reversed;have y_max:=Z.no _ z_max;have y_tuple:=Z.no _ z_tuple;have y_range:=Z.no _ z_range;have y_len:=Z.no _ z_len;have y_min:=Z.no _ z_min;have y_int:=Z.no _ z_int;have y_list:=Z.no _ z_list;have y_isinstance:=Z.no _ z_isinstance;have y_bool:=Z.no _ z_bool;have mT:=Z.ns _ _ qT;have zT:itsT.size<=sizeLine:=by
  have e:=vT.length;have e2:itsT.size=4:=by rw [<- ow];simpa [iB] using e.symm
  rw [e2]
  decide
 have hT:∀ H,bA K H xcT (iB.map V.str):=fun H=> .inr ⟨_,itsT,nT,uT,rfl,rfl,zT,vT⟩
 have W1:=zU u1 sa1 ga1 gh1;have CP:(PySem.W.clsIn K xc1).isSome=true:=by unfold PySem.W.clsIn;rw [u1];rfl
 have UP:XUp K xc1:=⟨ty1,CP,be1⟩
 have MK1:=aR5 u1 kp1 (sR tn1 tt1) ni1 uD (sR tnD ttD) niD;have FI:=qY (st:=wZ) liI ciI kiI;have BI:=FI.b2 (p1:="self") (p2:="most") fun _ _ _ _ _ _ _ _=>rfl
 have GI:=aJ1 (P:=l.prog) (w:=w) (mg:=mg) (base:=base) W1 no1 FI;have mc1:=Z.ns _ _ q1;have MK:Mk2 l.prog w K mg base xc1 (nM xc1) "TooMany":=⟨_,_,_,_,_,MK1,liI,rfl,GI,BI,mc1⟩
 have C2:=Z.c1 t2 (aK2);have C3:=Z.c1 t3 (wF);have C4:=Z.c1 t4 (yM C3 C2);have C5:=Z.c1 t5 (aD9);have C6:=Z.c1 t6 (aK4);have C7:=Z.c1 t7 (aG6 C6);have C8:=Z.c1 t8 (aE5 C6 C7 y_reversed);have C9:=Z.c1 t9 (aG0 C8);have C10:=Z.c1 t10 (aI5 mT hT C9);have C11:=Z.c2 t11 (aD3 C5 C4 y_max);have C12:=Z.c1 t12 (aF3 C10 C11 y_tuple y_max y_range y_len);have C13:=Z.yd1 t13 (yA MK C12 y_range);have A13:=Z.ya2 t13 (yA MK C12 y_range);have C14:=Z.y2 t14 (aL6 C10 A13 y_tuple);have C15:=Z.yd4 t15 (aJ8 C14);have C16:=Z.yd3 t16 (aD2 C14);have C17:=Z.c2 t17 (aE3);have C18:=Z.c2 t18 (zQ y_len);have C19:=Z.c1 t19 (aD7 C18 y_range);have C20:=Z.c2 t20 (aI4 C19 y_range);have R21:∀ n,Cl l.prog w K mg base (n+1) (vK n) "_law_term":=fun n=>by
  induction n with
  |zero=>exact Z.c3 (p1:="_law_pot_here") (p2:="_law_names_here") (p3:="_law_room") t21 okn
  |succ n ih=>exact Z.c3 t21 (aK8 n C18 ih y_len)
 have C21:=R21 12;have C22:=Z.c2 t22 (aI6 C18 y_tuple y_range);have C23:=Z.c2 t23 (aL4 C18 y_range y_max);have C24:=Z.c2 t24 (aF9 y_range);have C25:=Z.c1 t25 (aH5 C24);have C26:=Z.c3 t26 (aE2 C18 y_min);have C27:=Z.c3 t27 (aK6 C25 C18 C26 C24 C23 C22 y_int y_tuple y_min y_range);have R30:∀ m,Cl l.prog w K mg base (3 * m+13) (nZ m) "_law_rows":=fun m=>by
  induction m with
  |zero=>exact Z.c5 (p1:="_law_pot_here") (p2:="_law_scene") (p3:="_law_names_here") (p4:="_law_left") (p5:="_law_deep") t30 okn
  |succ m ih =>
   have I:=Z.c5 t28 (aF8 m ih C18 C21 y_min y_list y_int);have W:=Z.c5 t29 (aK5 m C18 I C27 C21 y_len);exact Z.c5 t30 (aI0 m W C18 y_range y_tuple)
 have C30:=R30 4;have C31:=Z.c4 t31 (aF5 C20 C18 C27 C30 y_len y_tuple);have R32:∀ n,Cl l.prog w K mg base (n+1) (rT n) "_law_throws":=fun n=>by
  induction n with
  |zero=>exact Z.c1 (p1:="_law_rows_here") t32 okn
  |succ n ih=>exact Z.c1 t32 (aE4 n ih)
 have C32:=R32 4;have C33:=Z.c1 t33 (aH3);have C34:=Z.c1 t34 (aJ0 C32 C33 y_range y_tuple y_len y_int y_max y_min);have C35:=Z.c1 t35 (aF7 y_range);have C36:=Z.c1 t36 (aL1 y_isinstance y_int y_bool);have C37:=Z.c1 t37 (aD0 C36 y_isinstance y_tuple);have C38:=Z.c2 t38 (aH0 mc1 UP W1 no1 C13 C15 C16);exact aI3 C17 C31 C34 C12 C35 C13 A13 C18 C37 C38 y_isinstance y_list y_tuple y_range (qY lk lc lp)
theorem walk {l:W.OpenLaw}{q:Program}{loose:List Str}{XP:(Str->Option Value)->Heap->Prop}{YP:World->Heap->Prop}{d:DefRec}{K:Params->W.Frag}(hn:l.most=some 63) (hdf:d.params.defaults=[])
  (hY:∀ (w:World) (h:Heap),YP w h->(K w.params).In h)
  (F:∀ (w:World) (mg:Str->Option Value) (fa:Addr) (h:Heap),(K w.params).In h->h.Ns mainGlobals mg->mg d.name=some (.ref fa) ->
   ∃ fd:FuncData,(∀ (s:Shared) (u:Value),BindsTo s fd ⟨[u],[]⟩ [("_law_script",u)])/\∀ base:Heap,(K w.params).In base->base.Ns mainGlobals mg->fU l.prog w (K w.params) mg base qM 27 fa fd ["_law_script"] (sI (K w.params))) :
  W.WalkO q loose XP YP l.row.toRowW d [] (fun f vs=>PySem.call f vs) :=
 L2.walk_of (n:=63) (k:=27) (x:="_law_script") (CX:=fun _=>qM) (sp:=fun w=>sI (K w.params)) hn (by decide) hdf ⟨rfl,by decide,by decide,rfl⟩ hY F (fun _ _ a ns hl _ hS=>⟨a,ns,rfl,hS,hl,fun _=>rfl⟩) fun _ _ _ _ _ z=>z
end Mine
open PySem PySem.W PyProof.Rows
namespace PySem.W.Fast
def tw10038046130733069286:=0
def tw10043428697699013812:=0
def tw10116028014268906645:=0
def tw10179973856109665918:=0
def tw10192801933288570711:=0
def tw10210223338341831:=0
def tw10212788552166412010:=0
def tw10241827608324232557:=0
def tw10247901828730288679:=0
def tw10274789992784447985:=0
def tw1031626495355192194:=0
def tw10330320543555255073:=0
def tw10373997464568236614:=0
def tw10377001647842837601:=0
def tw10445175584350891340:=0
def tw1047805172692797958:=0
def tw10511505512418062944:=0
def tw10540534354963384424:=0
def tw10559301185303020383:=0
def tw10577319150120437944:=0
def tw10622785446772872162:=0
def tw1064537350460135250:=0
def tw10762576376206179070:=0
def tw10811721650150099455:=0
def tw10822447881509419056:=0
def tw1084744566083975314:=0
def tw10867580562488479042:=0
def tw10910315594079152548:=0
def tw10970914484692652350:=0
def tw11014985901306710169:=0
def tw11021451122862673414:=0
def tw11067243484711541407:=0
def tw11086716504434898724:=0
def tw11278611452990061384:=0
def tw11297318759820031398:=0
def tw11324356084071744770:=0
def tw11409483831438676:=0
def tw11413771662179835799:=0
def tw11496555102164522593:=0
def tw11510619882304333582:=0
def tw1151551442264189985:=0
def tw11533828339675628922:=0
def tw11538456657445309128:=0
def tw11615546491800421304:=0
def tw11646728376143398784:=0
def tw11676265792327225854:=0
def tw11736104012998867824:=0
def tw11736776532422505722:=0
def tw11768328367288801294:=0
def tw1177492547131964088:=0
def tw11875118702282449982:=0
def tw11945153591150366779:=0
def tw11966271243470401955:=0
def tw12040453050113152991:=0
def tw12056074407168272481:=0
def tw12080952566223605024:=0
def tw12111417264274960879:=0
def tw12121599428535791632:=0
def tw12122909965140326444:=0
def tw12201327414634018792:=0
def tw12229926704811650601:=0
def tw12251743322547099122:=0
def tw12318466261856333957:=0
def tw12363193149632109832:=0
def tw12370771631561516281:=0
def tw12416695164025011369:=0
def tw12433394089159070287:=0
def tw12434482775875114808:=0
def tw12478402573069586182:=0
def tw12496253956788504067:=0
def tw1250692403389505308:=0
def tw12507520028256569517:=0
def tw12578823714435979656:=0
def tw12701186896071375822:=0
def tw12719365211793096084:=0
def tw12720693092789971068:=0
def tw12747612787672249230:=0
def tw12748785059291050015:=0
def tw12752487611135891394:=0
def tw12781429472959092460:=0
def tw12810641174210914323:=0
def tw12959462901839696625:=0
def tw1297577552235256307:=0
def tw13077938652136654637:=0
def tw13078783109960187050:=0
def tw13163383202949509255:=0
def tw13231440499363780237:=0
def tw13245875023643929019:=0
def tw13270313629478378093:=0
def tw13315227396090087292:=0
def tw13336125714947740809:=0
def tw13357133555892802522:=0
def tw13382840297060888321:=0
def tw13445308255455433709:=0
def tw13454908705747733686:=0
def tw13547469793983452305:=0
def tw13548217725789562589:=0
def tw13569059514446561653:=0
def tw13602288300708205966:=0
def tw13693480080137749383:=0
def tw13720441000582600473:=0
def tw13748728441960188918:=0
def tw13771908796313360906:=0
def tw13808430639991440236:=0
def tw13917126768662231307:=0
def tw1396755280269490329:=0
def tw13991968184089697775:=0
def tw14032109417877365025:=0
def tw14032851346723047345:=0
def tw14095054872802088727:=0
def tw14097658342376424252:=0
def tw14187766656807173839:=0
def tw14213536367632896803:=0
def tw14342345164601573089:=0
def tw14366567108248463338:=0
def tw1438956597984652568:=0
def tw14390590623533222757:=0
def tw14411612674789431777:=0
def tw14417496400715329409:=0
def tw1445391399974040752:=0
def tw14529546202229622007:=0
def tw14538515739554497058:=0
def tw14618021942108551352:=0
def tw14738497386664164667:=0
def tw14755731767872818455:=0
def tw14773091206870229619:=0
def tw1477359414640790052:=0
def tw14859514121614758737:=0
def tw14872123173517496825:=0
def tw14929609190384571169:=0
def tw14986342772615559531:=0
def tw1499157886574395764:=0
def tw1505232438315260214:=0
def tw15074759212730574173:=0
def tw15079639554338873151:=0
def tw15134474024926742637:=0
def tw15172925149316122845:=0
def tw15173446932776152947:=0
def tw15175432755683979800:=0
def tw15199685322839837862:=0
def tw152459346838776585:=0
def tw1536736803619946635:=0
def tw15376286398812959622:=0
def tw15377200545835193869:=0
def tw15456620644758397192:=0
def tw1547751296247894168:=0
def tw15479593602285131271:=0
def tw15531561246886473448:=0
def tw15542401852272585157:=0
def tw15546367004332649676:=0
def tw15552261138953214071:=0
def tw15584980241800007229:=0
def tw15621615287398321619:=0
def tw15646672527652881069:=0
def tw15669040415068935486:=0
def tw15696166592590899578:=0
def tw15701179480982409213:=0
def tw15738402536844484829:=0
def tw15890051161419605393:=0
def tw15914742530853084288:=0
def tw15933779342201166632:=0
def tw15937067695349714591:=0
def tw15961163441008730303:=0
def tw1598490124126900201:=0
def tw16012912253812281976:=0
def tw16073756460030856391:=0
def tw16088152084291160305:=0
def tw16090370244034963032:=0
def tw16134163973977704786:=0
def tw1613559734788193484:=0
def tw16146179007384213330:=0
def tw16172890738577482010:=0
def tw1624303272648131252:=0
def tw16244680892801981733:=0
def tw16299593804756547841:=0
def tw16324979564083384742:=0
def tw163654294752777844:=0
def tw16482080943001089283:=0
def tw16513947775382471033:=0
def tw16578885837179553643:=0
def tw1661834680735877830:=0
def tw1663923924173860791:=0
def tw16684648526513799588:=0
def tw16746633015514949778:=0
def tw16782824744541725116:=0
def tw16848978512170648069:=0
def tw16864736835150800583:=0
def tw16938759014964797358:=0
def tw16944862642671182225:=0
def tw1699746640558051527:=0
def tw17003905196156306958:=0
def tw17019104243762330044:=0
def tw17019799480760457805:=0
def tw17027384675723934594:=0
def tw1703757284663634669:=0
def tw1706844960804180643:=0
def tw17072860018323412040:=0
def tw170939016969206999:=0
def tw17119351668489196452:=0
def tw17180980533804362184:=0
def tw17188763618081257953:=0
def tw17264512255591734250:=0
def tw17285069255428395919:=0
def tw17300400533358347790:=0
def tw17306961057587446507:=0
def tw17372747758305447391:=0
def tw17471338935023661452:=0
def tw17480437728163554704:=0
def tw1750503577805252010:=0
def tw17546717523530129762:=0
def tw17611576883467303533:=0
def tw17624567421541168759:=0
def tw17628408749474775359:=0
def tw17633727771551950313:=0
def tw17674430876513011312:=0
def tw17699314040672607378:=0
def tw17709621801992645418:=0
def tw17713466150930830641:=0
def tw17713869297217966340:=0
def tw17748709881579646188:=0
def tw17751989191014513110:=0
def tw17769315919907870126:=0
def tw17774515076305805803:=0
def tw1777875420906039991:=0
def tw17810749813111194779:=0
def tw17872714151450165352:=0
def tw17894649956788481351:=0
def tw1793370886220946418:=0
def tw17953666410968958684:=0
def tw17965253818460559433:=0
def tw1805871442814531929:=0
def tw18178822054811959384:=0
def tw18196784070939907654:=0
def tw18224941178345010691:=0
def tw18255080572757355696:=0
def tw18289798954853266996:=0
def tw1829127693395117450:=0
def tw18301543107966466677:=0
def tw18306086477511623452:=0
def tw18351539666611641287:=0
def tw18365375848655355214:=0
def tw18372164203595395373:=0
def tw18376121354817661062:=0
def tw1838795742012930094:=0
def tw18426535427475935123:=0
def tw1901657287098798402:=0
def tw1927925595777063820:=0
def tw1938458125982381866:=0
def tw1965386395349048960:=0
def tw1974895318499980584:=0
def tw1987862819623632963:=0
def tw1991322771720896780:=0
def tw2022625964901224751:=0
def tw2112075213733127941:=0
def tw2123887380611458886:=0
def tw2127246025465613455:=0
def tw2128286013865242476:=0
def tw21354617249862820:=0
def tw2198392132131752911:=0
def tw2198931988601287495:=0
def tw2263557702850352393:=0
def tw2284985320270708570:=0
def tw2324910225934136319:=0
def tw2338147434987577643:=0
def tw2398083555061752718:=0
def tw241016199552235280:=0
def tw2420986852340900718:=0
def tw2422417484703066336:=0
def tw2427298524012614579:=0
def tw2435407218995935844:=0
def tw2440280650816644353:=0
def tw2445429089949371868:=0
def tw2504078597716997092:=0
def tw2507854924351796246:=0
def tw2518657342958577156:=0
def tw2538012680885160574:=0
def tw2576045016157039330:=0
def tw2591453217884519315:=0
def tw2684244524995046124:=0
def tw2719217431795055514:=0
def tw2739292271536596696:=0
def tw2757395345739368151:=0
def tw2767711448296266708:=0
def tw276812377856492210:=0
def tw2771360197715359625:=0
def tw2773134852770354874:=0
def tw2822221081509432556:=0
def tw2836114468841111948:=0
def tw2841210478450565587:=0
def tw2877822200698891073:=0
def tw2939090096250342706:=0
def tw2982981595238532559:=0
def tw2987176532102786671:=0
def tw2996102994407402496:=0
def tw2996175081369824654:=0
def tw3002566683891099375:=0
def tw3046021581989864927:=0
def tw3077792804625829660:=0
def tw3080527050859013169:=0
def tw3083831829233037052:=0
def tw3119024394168766846:=0
def tw3145493767751361244:=0
def tw3155811484875879925:=0
def tw3172320196558476619:=0
def tw3174447697828161695:=0
def tw3224307773567358029:=0
def tw3241057063693787192:=0
def tw3290713040472065107:=0
def tw330687264722192375:=0
def tw334146095708252937:=0
def tw3405825456194476022:=0
def tw3427790644385646084:=0
def tw3435464960760001122:=0
def tw3437585926288118425:=0
def tw3453567323690366930:=0
def tw345553690677907507:=0
def tw3495663198234607341:=0
def tw3542750680834996973:=0
def tw3588136892954404666:=0
def tw3631740520766387868:=0
def tw3666706669094745947:=0
def tw3725718851106927870:=0
def tw3726661780055828217:=0
def tw3742662176012762221:=0
def tw3767242551827448424:=0
def tw3855105121584680149:=0
def tw39313329021658786:=0
def tw3986094308793064568:=0
def tw3992429446766241523:=0
def tw4011208593139842375:=0
def tw4094183817360060865:=0
def tw4110548248432124030:=0
def tw4123960852027405997:=0
def tw4157339869469551022:=0
def tw4201831424616534704:=0
def tw4254902684578948604:=0
def tw4291815309314705536:=0
def tw4301995536658669109:=0
def tw4310580381486898100:=0
def tw438104538125039425:=0
def tw4395057102112744971:=0
def tw440910216180497539:=0
def tw4466275805080864376:=0
def tw4561149732666661421:=0
def tw4582786778879881555:=0
def tw4600016066419401984:=0
def tw4609064016825044637:=0
def tw4660303756332049298:=0
def tw4667750567885583097:=0
def tw4678528235278683521:=0
def tw4685185164394838201:=0
def tw472836594301312477:=0
def tw4846550834097036137:=0
def tw4905871205600699106:=0
def tw4925184583743385126:=0
def tw5026358524239253277:=0
def tw5031273511225839157:=0
def tw5059495496498301450:=0
def tw5098054885133726379:=0
def tw5154256343868143873:=0
def tw5163368196069748398:=0
def tw5259338169846185132:=0
def tw5261602045011390800:=0
def tw5267291005170489212:=0
def tw5312354395223050766:=0
def tw531250726009085223:=0
def tw5319747135646752089:=0
def tw5425383459380769063:=0
def tw5431747656135898700:=0
def tw5439893480662268027:=0
def tw5450721870711976429:=0
def tw547582454322907056:=0
def tw5490181989780752959:=0
def tw5517591496115074216:=0
def tw5528081102017146755:=0
def tw5590059680752809336:=0
def tw5594338592676126067:=0
def tw5599385749260009165:=0
def tw5650190090053705068:=0
def tw5672122660088708650:=0
def tw575122677404510607:=0
def tw5766758274271481334:=0
def tw5803801593730975944:=0
def tw5839689798755432240:=0
def tw5860533693184718483:=0
def tw5911649199132610647:=0
def tw5914482335491147052:=0
def tw5925196699758687496:=0
def tw5944664776132778953:=0
def tw5969378453830378641:=0
def tw5973869011095820378:=0
def tw5977513057334670874:=0
def tw6007303789356133632:=0
def tw6016751422501871538:=0
def tw6020146509520446914:=0
def tw6059771573788329641:=0
def tw6105939239545964722:=0
def tw6143452006802103102:=0
def tw6173294292200677777:=0
def tw6175313177443999785:=0
def tw6259674882829116773:=0
def tw6287550328880414752:=0
def tw6324232007892652872:=0
def tw6382848987139358354:=0
def tw6476540912618747567:=0
def tw6489759514814407474:=0
def tw6537219695690452826:=0
def tw6560290073610708369:=0
def tw6691180190305778599:=0
def tw6698041350596172826:=0
def tw672166307384397856:=0
def tw6734496691101872665:=0
def tw6755816211749418113:=0
def tw6816465419118187952:=0
def tw6849713898118837456:=0
def tw6851982223980076962:=0
def tw6866095683177664952:=0
def tw6908016302476933475:=0
def tw6912603766448622816:=0
def tw6950829507488842135:=0
def tw6987970579097216648:=0
def tw7056451178841991950:=0
def tw7149065794498324101:=0
def tw7179270935213899722:=0
def tw7188635659910651336:=0
def tw7218359613005563472:=0
def tw7249139870660204446:=0
def tw7299641264525396923:=0
def tw7312325168414515328:=0
def tw7324689609828043917:=0
def tw7334814866276487289:=0
def tw7334887316350306803:=0
def tw7340986361491114264:=0
def tw7375026930335170987:=0
def tw7376044898291820652:=0
def tw7394529196059185812:=0
def tw7402136061919008507:=0
def tw7432245454492321817:=0
def tw7453801215740841265:=0
def tw7481391834238659673:=0
def tw7505946917794580231:=0
def tw7524330293318990191:=0
def tw7577070042976504648:=0
def tw768016857526741173:=0
def tw7731705001581707746:=0
def tw773769960545601909:=0
def tw7784280683382087177:=0
def tw7785465912600693569:=0
def tw7817849039482614262:=0
def tw782256895765119945:=0
def tw7828560846901509974:=0
def tw7885520713033929424:=0
def tw7914929496980329399:=0
def tw7930535010234343616:=0
def tw7960831958038676902:=0
def tw8049133414464996007:=0
def tw8065462623220475055:=0
def tw8086822310399867181:=0
def tw8112570096094707593:=0
def tw8143497694081654605:=0
def tw8162012153613895963:=0
def tw8179075975982712715:=0
def tw8201438419074795723:=0
def tw8211853788070084994:=0
def tw8223969471532450676:=0
def tw8231512590828894648:=0
def tw8232263194777072886:=0
def tw8236515600277474564:=0
def tw8305478770814778041:=0
def tw8385331215992556253:=0
def tw8403754856895674647:=0
def tw8432657208137028068:=0
def tw845051270330851726:=0
def tw8474587555569202084:=0
def tw8488479103657121198:=0
def tw8516816752488274118:=0
def tw8587436077422736763:=0
def tw8592414549462616604:=0
def tw8610388875943276169:=0
def tw8716533814989422616:=0
def tw8891665602903168737:=0
def tw8939004623632256035:=0
def tw8939518197221721405:=0
def tw9002660411428670988:=0
def tw9108500085335298399:=0
def tw9151663444968378991:=0
def tw9161630866567480534:=0
def tw9180998220768760165:=0
def tw9238919480891552075:=0
def tw9341701424452565507:=0
def tw9356636438189572153:=0
def tw9372590699306895670:=0
def tw9382534386687719072:=0
def tw9526688408138093477:=0
def tw9594668819606249407:=0
def tw965702606465939585:=0
def tw9697005631304891717:=0
def tw9731471394925003644:=0
def tw9750848920196977415:=0
def tw9762809961334997787:=0
def tw9767925702413978504:=0
def tw9775650398415206650:=0
def tw9828347611220464214:=0
def tw9829241268118285740:=0
def tw9847513582974196710:=0
def tw9915772391944896201:=0
def tw9919557773131383697:=0
def tw9990891780957388929:=0
end PySem.W.Fast
set_option maxRecDepth 100000 in
set_option maxHeartbeats 0 in
theorem PySem.Challenge.cw_pairedthrows_k41_tops_and_crowds_holds : PySem.Challenge.rw_pairedthrows_k41_tops_and_crowds.Holds := by
  w_on;o_law;k_head;(case hw=>w_witness2)
  k_fill
  refine Mine.walk (l:=PySem.Challenge.rw_pairedthrows_k41_tops_and_crowds) rfl rfl (fun w h Y=>PySem.W.kIn_of Y) ?F
  case F =>
    intro w mg fa h KX G hmg
    refine' Mine.all_mk KX G hmg ?a0 ?a1 ?a2 ?a3 ?a4 ?a5 ?a6 ?a7 ?a8 ?a9 ?a10 ?a11 ?a12 ?a13 ?a14 ?a15 ?a16 ?a17 ?a18 ?a19 ?a20 ?a21 ?a22 ?a23 ?a24 ?a25 ?a26 ?a27 ?a28 ?a29 ?a30 ?a31 ?a32 ?a33 ?a34 ?a35 ?a36 ?a37 ?a38 ?a39 ?a40 ?a41 ?a42 ?a43 ?a44 ?a45 ?a46 ?a47 ?a48 ?a49 ?a50 ?a51 ?a52 ?a53 ?a54 ?a55 ?a56 ?a57 ?a58 ?a59 ?a60 ?a61 ?a62 ?a63 ?a64 ?a65 ?a66 ?a67 ?a68 ?a69 ?a70
    case a38|a39|a40|a41|a42|a43|a44|a45|a46|a47|a48|a49=>k_is
    case a50=>exact .cons ⟨_,rfl⟩ (.cons ⟨_,rfl⟩ (.cons ⟨_,rfl⟩ (.cons ⟨_,rfl⟩ .nil)))
    case a51|a52|a53|a54|a55=>k_is
    case a56=>rfl
    case a57|a58=>k_is
    case a59=>rfl
    case a60|a61|a62|a63|a64|a65|a66|a67|a68|a69|a70=>k_is
    case a0|a1|a2|a3|a4|a5|a6|a7|a8|a9|a10=>apply L2.TopAt.of<;>k_is
    case a11=>apply L2.TopAtD.of<;>k_is
    case a12=>apply L2.TopAt.of<;>k_is
    case a13|a14=>apply L2.TopAtD.of<;>k_is
    case a15|a16|a17|a18|a19|a20|a21|a22|a23|a24|a25|a26|a27|a28|a29|a30|a31|a32|a33|a34|a35|a36|a37=>apply L2.TopAt.of<;>k_is
