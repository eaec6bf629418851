import PyProof.Rows.All
import Wide.All
import OpenK.AllK
import Wide.FinOn
import Lean
import PyProof.EqAt
import PyProof.EqKinds
import PyProof.TupleCall
import KE.KDictOf
import PyProof.AttrMissHeap
import KE.KSortTup
import PyProof.Rows.InDataRows
import PyProof.AutoListH
import KE.KRevSl
import PyProof.Rows.SetFrom
import PyProof.Rows.SortStr
import PyProof.ExcClass3
import PyProof.StationsW
import PyProof.RulesTry
import PyProof.Rows.CatchOwn
import OpenK.KCall
import OpenK.KRaise
import PyProof.InstSpecial
import PySem.Challenge.RW_pairedthrows_k18_the_first_amiss
set_option Elab.async false
set_option linter.all false
set_option maxRecDepth 100000
local macro_rules|`(tactic|omega)=>`(tactic|lia)
local macro_rules|`(def $i:declId $s:optDeclSig $v:declVal)=>`(noncomputable def $i:declId $s:optDeclSig $v:declVal)
set_option compiler.extract_closed false
noncomputable section
open List renaming length_map->aa,length_append->ak,mem_of_getElem?->ap,mem_cons_of_mem->ay,getElem?_eq_some_iff->az,map_append->bg,mem_cons_self->bh,size_toArray->bj,take_length->ci,mem_cons->cq,length_cons->cu,length_take->cv,mem_append_right->cw,getElem?_eq_getElem->de,getElem?_map->dh,not_mem_nil->dj,reverse_cons->dm,mem_singleton->dq,mem_append->du,length_reverse->ek,mem_append_left->fg,filterMap_append->fm,append_nil->gj,nodup_cons->gm,length_filter_le->gp,eq_nil_of_length_eq_zero->gr,map_cons->gv,dropLast_concat->gx,length_eq_zero_iff->ic,replicate_succ->ig,foldl_cons->io,length_take_le->ir,take_of_length_le->iw,mem_filterMap->iy,filterMap_cons_none->jj,length_nil->jo,flatten_cons->jt,length_replicate->jw,map_map->ke,mem_map->kg,any_cons->ko,filterMap_cons->kx,mem_filter->lg,mem_range->me,append_assoc->mo,nodup_append->mq,getElem?_set_self->na,map_take->nt,cons_append->nu,length_drop->nv,any_eq_true->oa,eraseIdxIfInBounds_toArray->oh,getElem?_set_ne->om,of_mem_zip->oo,nil_append->ou,mem_of_mem_take->pi,mem_of_mem_drop->pj,take_succ->qj,drop_zero->ql,filter_append->qv,flatMap_cons->rc,getElem_inj->rm,all_eq_true->si,append_cancel_right->sk,map_reverse->sv,length_filterMap_le->sw,filter_cons_of_pos->tj,filter_cons_of_neg->tq,forIn_cons->ub,getElem_cons_drop->ui,drop_eq_nil_of_le->uk,length_singleton->uq,getElem?_reverse->uw,getElem?_eq_none->ux,take_append_drop->vd,length_dropLast->vi,pairwise_append->vm,length_take_le'->vo,set_comm->vv,map_drop->vx,getElem_of_mem->wb,length_pos_iff->wf,map_nil->wo,contains_cons->xb,count_append->xt,find?_isSome->xu,getElem_mem->yf
open PySem renaming wpAny_bind->ac,wpAny_pure->ao,boot_len->bz,wpAny_mono->di,wpAny_loadPart'->dv,wpAny_truthy_bool->dy,wpAny_newObj_type->fj,wpAny_Call_Name_kw->gu,wpAny_holding->gw,wpAny_field->im,wpAny_callSpecial?_slot->ip,mem_of_lookup->iq,wpAny_passesOwn->iz,call_meets->jd,sizeLine_eq->jf,wpAny_getItem_str_slice->jk,wpAny_pyIter_tuple->jm,codeAny_builtin->jp,wpAny_pyIter_list->jr,wpAny_loadPart_at->jv,wpAny_seqItems->jy,wpAny_call_entry->kh,plainId_quiet->kq,strLen_append->kr,wpAny_execs_nil->lh,codeAny_mono->lv,wpAny_standAt->nj,plainObj_wpAny_Assign_Attribute->oi,wpAny_call->on,wpAny_typeOf->ot,wpAny_updateSeq->oy,post_val_or_str->oz,codeAny_call_builtin->pd,wpAny_bindName->qf,wpAny_setField->qh,wpAny_tryCatch->qk,wpAny_loadPart->qm,wpAny_letGo->qo,tupleKind_room_in1->qp,wpAny_newFunctionEnv_cells->qx,typeIs_int->rg,wpAny_binaryOp_repeat_ref->rh,wpAny_execs_cons->rp,noFill_tuple_add->rz,wpAny_comprehension_free->sf,wpAny_specialOf->ua,wpAny_getItem_list_neg->ug,wpAny_isTrue_Compare1->um,codeAny_call_function->uo,builtinLookup_eq_fast->ut,isSubtype_type->uv,wpAny_loadName_local->vh,wpAny_pyIter_revIter->vk,seq_tuple_add->vq,wpAny_attempt->vw,wpAny_loadName_cell->vz,wpAny_isSubtype_exc->we,concat_meets->wp,seqIndex_neg->wt,call_reversed_list->wv,wpAny_assign_Name->xf,wpAny_sequenceKey->xj,wpAny_pyIter_enum->xp,seqIndex_of->yb,wpAny_isInstance->ye,wpAny_lookBehind->yh,pastItsLine_dict->yi,seqSlot_of->yj,wpAny_Name->ym,typeIs_str->yo,wpAny_rule->yq
open PySem.Heap renaming get?_push_of_some->ah,lt_size->aq,get?_push_size->br,get?_update_ne->dw,get?_update_self->eo,get?_update_other->fh,size_push->jg,get?_none_of_le->oj
open Nat renaming le_refl->ai,zero_le->av,le_of_lt->bu,lt_of_lt_of_le->bv,ne_of_lt->cg,le_trans->cj,le_succ->df,lt_of_le_of_lt->dz,lt_irrefl->ef,lt_succ_self->ej,sub_lt_sub_left->fi,ne_of_gt->jh,lt_succ_of_lt->ju,min_eq_left->lm,not_lt->rj,mul_le_mul_right->vn,zero_add->ww,sub_zero->xc,succ_ne_self->yg,min_eq_right->yk
open PySem.F renaming plainAttrs_list->aj,slot_list_append->bo,type_list_append->bq,slot_list_pop->fb,type_list_pop->fc,slot_list_extend->fu,type_list_extend->fv,plain_min_loop->iu,slot_tuple_iterator_next->jc,args_tuple_add_2->lz,entry_tuple_add->mf,slot_tuple_add->nh,slot_int_rmul->ow,args_tuple_iterator_next_1->qg,entry_tuple_iterator_next->qr,args_tuple_mul_2->qu,excBase_ValueError->qz,entry_tuple_mul->rd,entry_min_loop->sj,slot_tuple_mul->sq,slot_enumerate_next->uy,slot_tuple_lt->vc,args_int_rmul_2->xl,entry_list_pop->yc,entry_int_rmul->yd
open Bool renaming false_ne_true->bi,eq_iff_iff->ja,and_eq_true->kj,eq_false_iff->my,false_and->qe,false_or->vp,true_and->vy
open Option.some renaming inj->dk
open PyProof.Rows renaming boot_tuple->ee,callWith_type1->ge,boot_isinstance->gy,slot_tuple_getitem->ik,boot_int->jb,assignInOrder_cons->lu,boot_min->og,boot_reversed->qy,subscriptTail_builtinR->ue,boot_max->vf,boot_set->vg,entry_tuple_getitem->wa,args_tuple_getitem->wq,assignInOrder_nil->xg,Subscript_->yn
open PySem.W renaming kia_one->eh,looks_findIn->ph,looks_clsIn->qd,cellsFrom_some->ud,looks_find->xa,kitx_list->xh,kitx_dict->xi,set_plain->xw
open True renaming intro->gi
open Or renaming inl->ii,inr->ur
open PySem.Obj renaming data_mapFields->ij,isFreed_of_fields->jz,cls_mapFields->xo
open PySem.Around renaming under_plainId->je
open Option renaming isSome_iff_exists->ji,bind_some->km,isSome_map->mi,map_eq_some_iff->ng,map_some->oq
open PySem.Paired renaming length->jl
open PySem.Calls renaming spliced_cons->jn,spliced_nil->js,Name_function_global->qw,callWith_builtin->uh
open Int renaming natCast_nonneg->jq,emod_lt_of_pos->md,toNat_natCast->mj,mul_le_mul_of_nonneg_right->pe,emod_nonneg->pf,toNat_of_nonneg->pw,le_of_lt->sh,le_refl->uj,pow_succ->wx
open Array renaming getElem?_toList->jx,getElem?_eq_some_iff->ku,length_toList->pq,find?_toList->wk
open PySem.PassesOwn renaming never->ll
open Classical renaming byContradiction->lq,not_not->ya
open PySem.Txt renaming slice_le->ma
open PyProof.Rows.F renaming plain_set_update_loop->mh,entry_set_update_loop->sy
open PySem.Code renaming quiet_builtin->qt
open PySem.Walks renaming list->vj,listRev->vt
open PySem.Heap.SameBut renaming update->wc
open PySem.SeqAt.EqAt renaming int_str->wg,str_int->wj,int_int->wu
open PySem.W.Looks renaming here->wy
open List.Pairwise renaming nil->xm
open PySem.Heap.Ns1 renaming of_empty->xy
open PySem.Within renaming cons->xz
namespace L2
theorem Rq0(_:True:=by rfl):True:=trivial
theorem Rq1(_:True:=by decide):True:=trivial
theorem Rq2(_:True:=by assumption):True:=trivial
theorem Rq3(_:True:=by first | exact .inl rfl | exact .inr rfl | assumption):True:=trivial
theorem Rq4(_:True:=by intros;rfl):True:=trivial
theorem Rq5(_:True:=by decide +kernel):True:=trivial
theorem Rq6(_:True:=by intro _;rfl):True:=trivial
theorem Rq7(_:True:=by intro _ _ _ _ h;(repeat obtain ⟨_,h⟩:=h);subst_vars;rfl):True:=trivial
theorem Rq8(_:True:=by refine ⟨rfl,rfl,rfl,?_,rfl,?_,?_⟩ <;> decide +kernel):True:=trivial
theorem Rq9(_:True:=by first | exact ii rfl | exact ur rfl):True:=trivial
theorem Rq10(_:True:=by first | decide | omega):True:=trivial
theorem Rq11(_:True:=by with_unfolding_all rfl):True:=trivial
theorem Rq12(_:True:=by exact fun _ _=>rfl):True:=trivial
theorem Rq13(_:True:=by first | exact nU _ | rfl):True:=trivial
theorem Rq14(_:True:=by first | exact wC _ (by decide) (by decide) | rfl):True:=trivial
end L2
namespace L2
theorem oqa {a b c:Int} (h:autoParam (a ≤ b) Rq2._auto_1) (g:autoParam (b ≤ c) Rq5._auto_1):a ≤ c:=Int.le_trans h g
theorem oqb {a b c:Int} (h:autoParam (b ≤ c) Rq2._auto_1) (g:autoParam (a ≤ b) Rq5._auto_1):a ≤ c:=Int.le_trans g h
theorem oqc {a b c:Int} (h:autoParam (a ≤ b) Rq2._auto_1) (g:autoParam (b < c) Rq5._auto_1):a < c:=Int.lt_of_le_of_lt h g
theorem oqe {a b c:Int} (h:autoParam (b ≤ c) Rq2._auto_1) (g:autoParam (a < b) Rq5._auto_1):a < c:=Int.lt_of_lt_of_le g h
theorem oqf {a b c:Nat} (h:autoParam (a ≤ b) Rq2._auto_1) (g:autoParam (b ≤ c) Rq5._auto_1):a ≤ c:=Nat.le_trans h g
theorem oqj {a b c:Nat} (h:autoParam (a ≤ b) Rq2._auto_1) (g:autoParam (b ≤ c) Rq2._auto_1):a ≤ c:=Nat.le_trans h g
theorem oqn {a b:Int} (h:autoParam (a ≤ b) Rq2._auto_1):0 ≤ b - a:=Int.sub_nonneg_of_le h
theorem oqo {a b c:Nat} (h:autoParam (a = b) Rq2._auto_1) (g:autoParam (b ≤ c) Rq2._auto_1):a ≤ c:=h ▸ g
theorem oqq {n m:Nat} {c:Int} (h:autoParam (n ≤ m) Rq2._auto_1) (g:autoParam ((m:Int) < c) Rq5._auto_1):(n:Int) < c:=Int.lt_of_le_of_lt (Int.ofNat_le.mpr h) g
theorem oqt {a b:Int} (h:autoParam (b < a) Rq2._auto_1):a ≠ b:=Int.ne_of_gt h
theorem oqC {a b c:Nat} (h:autoParam (a + b ≤ c) Rq2._auto_1):a ≤ c:=Nat.le_trans (Nat.le_add_right a b) h
theorem oqD {a b c:Nat} (h:autoParam (a + b ≤ c) Rq2._auto_1):b ≤ c:=Nat.le_trans (Nat.le_add_left b a) h
theorem oqI {a b:Nat}:a ≤ a + b:=Nat.le_add_right a b
theorem oqJ {a b:Nat}:a ≤ b + a:=Nat.le_add_left a b
theorem oqN {a b c:Nat} (h:autoParam (b = a) Rq2._auto_1) (g:autoParam (b ≤ c) Rq2._auto_1):a ≤ c:=h ▸ g
end L2
namespace L2
open PySem PySem.Spec PyProof.Rows
def af:=@decide_eq_true
def ag:=@of_decide_eq_true
def ar:=@if_neg
def au:=@decide_eq_false
def bc:=@if_pos
def dg:=@congrArg
def ie:=@beq_eq_false_iff_ne
def oe:=@decide_eq_decide
def re:=@beq_iff_eq
def xq:=@decide_eq_true_eq
end L2
namespace L2
open PySem PySem.Spec PyProof.Rows
abbrev Key:=Sum Int Str
def lZ:Key->Value->Bool
 |.inl k,v=>Value.isInt k v
 |.inr x,v=>Value.isStrOf x v
def bY6 (w:World):Key->Int
 |.inl k=>hashInt k
 |.inr x=>hashStr w x
theorem dA:∀ {k:Key}{v:Value},lZ k v=true->(∃ i t,k=Sum.inl i/\v=Value.int i t)\/(∃ x t,k=Sum.inr x/\v=Value.str x t)
 |.inl i,v,h=>by
  obtain ⟨t,e⟩:=Value.isInt_shape (k:=i) (v:=v) h
  exact .inl ⟨i,t,rfl,e⟩
 |.inr x,v,h=>by
  obtain ⟨t,e⟩:=Value.isStrOf_shape (x:=x) (v:=v) h
  exact .inr ⟨x,t,rfl,e⟩
theorem tQ (i:Int) (t:Tok):lZ (.inl i) (.int i t)=true:=by simp [lZ,Value.isInt]
theorem sN (x:Str) (t:Tok):lZ (.inr x) (.str x t)=true:=by simp [lZ,Value.isStrOf]
theorem bB1 (a b:Int):decide ((Sum.inl a:Key)=Sum.inl b)=(a == b):=by
 by_cases e:a=b
 ·subst e;simp
 ·have h:¬ (Sum.inl a:Key)=Sum.inl b:=fun q=>e (Sum.inl.inj q)
  rw [au h]
  exact (ie.mpr e).symm
theorem bE0 (a b:Str):decide ((Sum.inr a:Key)=Sum.inr b)=decide (a=b):=by
 by_cases e:a=b
 ·subst e;simp
 ·have h:¬ (Sum.inr a:Key)=Sum.inr b:=fun q=>e (Sum.inr.inj q)
  rw [au h,au e]
theorem bA0 (a:Int) (b:Str):decide ((Sum.inl a:Key)=Sum.inr b)=false:=au (fun q=>nomatch q)
theorem aZ3 (a:Str) (b:Int):decide ((Sum.inr a:Key)=Sum.inl b)=false:=au (fun q=>nomatch q)
def cG (prog:Program) (w:World):PySem.KeyKind prog w Key where
 is:=lZ
 hash:=bY6 w
 inj:=fun v a b ha hb=>by
  rcases dA ha with ⟨i,t,rfl,rfl⟩ | ⟨x,t,rfl,rfl⟩
  ·rcases dA hb with ⟨j,u,rfl,e⟩ | ⟨y,u,rfl,e⟩
   ·injection e with e1 _;rw [e1]
   ·exact nomatch e
  ·rcases dA hb with ⟨j,u,rfl,e⟩ | ⟨y,u,rfl,e⟩
   ·exact nomatch e
   ·injection e with e1 _;rw [e1]
 byValue:=fun k v h=>by
  rcases dA h with ⟨i,t,rfl,rfl⟩ | ⟨x,t,rfl,rfl⟩ <;> rfl
 pyHash:=fun hv h=>by
  rcases dA hv with ⟨i,t,rfl,rfl⟩ | ⟨x,t,rfl,rfl⟩
  ·exact wpAny_pyHash_int h
  ·exact wpAny_pyHash_str h
 eqBool:=fun hu hv h=>by
  rcases dA hu with ⟨i,t,rfl,rfl⟩ | ⟨x,t,rfl,rfl⟩
  ·rcases dA hv with ⟨j,u,rfl,rfl⟩ | ⟨y,u,rfl,rfl⟩
   ·rw [bB1] at h;exact wpAny_eqBool_int h
   ·rw [bA0] at h;exact wg i t y u _ _ _ _ h
  ·rcases dA hv with ⟨j,u,rfl,rfl⟩ | ⟨y,u,rfl,rfl⟩
   ·rw [aZ3] at h;exact wj x t j u _ _ _ _ h
   ·rw [bE0] at h;exact wpAny_eqBool_str h
 «strs» :=fun k x t v h=>by
  rcases dA h with ⟨i,u,rfl,e⟩ | ⟨y,u,rfl,e⟩
  ·exact nomatch e
  ·injection e with e1 _
   subst e1
   cases v <;> rfl
theorem vY (prog:Program) (w:World) (i:Int) (t:Tok):(cG prog w).is (.inl i) (.int i t)=true:=tQ i t
theorem wK (prog:Program) (w:World) (x:Str) (t:Tok):(cG prog w).is (.inr x) (.str x t)=true:=sN x t
inductive V where
 |non | bl (b:Bool) | int (i:Int) | str (x:Str) | byt (b:Array UInt8) | flt (b:UInt64) | ref (a:Addr) | ty (n:String)
 deriving DecidableEq
def bX:V->Value->Prop
 |.non,u=>u=Value.none
 |.bl b,u=>u=Value.bool b
 |.int i,u=>∃ t,u=Value.int i t
 |.str x,u=>∃ t,u=Value.str x t
 |.byt b,u=>∃ t,u=Value.bytes b t
 |.flt b,u=>∃ t,u=Value.float b t
 |.ref a,u=>u=Value.ref a
 |.ty n,u=>u=Value.type n
abbrev bN:List V->List Value->Prop:=Paired bX
theorem bN.length {xs:List V}{us:List Value}(r:bN xs us):xs.length=us.length:=jl r
theorem bN.get:∀ {xs:List V}{us:List Value}{i:Nat}{x:V},bN xs us->xs[i]?=some x->∃ u,us[i]?=some u/\bX x u
 |_,_,_,_,.nil,e=>by simp at e
 |_,_,0,_,.cons r _,e=>by simp at e;subst e;exact ⟨_,rfl,r⟩
 |_,_,i+1,x,.cons _ t,e=>by
  obtain ⟨u,h1,h2⟩:=bN.get (i:=i) (x:=x) t (by simpa using e)
  exact ⟨u,by simpa using h1,h2⟩
theorem bN.set {x:V}{u:Value}(r:bX x u):∀ {xs:List V}{us:List Value}(i:Nat),bN xs us->bN (xs.set i x) (us.set i u)
 |_,_,_,.nil=> .nil
 |_,_,0,.cons _ t=> .cons r t
 |_,_,i+1,.cons q t=> .cons q (bN.set r i t)
theorem bN.append:∀ {xs ys:List V}{us ws:List Value},bN xs us->bN ys ws->bN (xs++ys) (us++ws)
 |_,_,_,_,.nil,s=>s
 |_,_,_,_,.cons r t,s=> .cons r (bN.append t s)
theorem bN.take:∀ {xs:List V}{us:List Value}(n:Nat),bN xs us->bN (xs.take n) (us.take n)
 |_,_,0,_=> .nil
 |_,_,_+1,.nil=> .nil
 |_,_,n+1,.cons r t=> .cons r (bN.take n t)
theorem bN.drop:∀ {xs:List V}{us:List Value}(n:Nat),bN xs us->bN (xs.drop n) (us.drop n)
 |_,_,0,r=>r
 |_,_,_+1,.nil=> .nil
 |_,_,n+1,.cons _ t=>bN.drop n t
def kW:Option V->Option Value->Prop
 |some v,some u=>bX v u
 |none,none=>True
 |_,_=>False
def KV {κ: Type}:List (κ×V)->List (κ×Value)->Prop:=Paired fun (p:κ×V) (q:κ×Value)=>p.1=q.1/\bX p.2 q.2
def kV:Key->V
 |.inl i=> .int i
 |.inr x=> .str x
inductive HO where
 |lst (xs:List V)
 |tup (xs:List V)
 |dK (kvs:List (Key×V)) | dT (kvs:List (List Key×V))
 |set (S:Int->Bool) (n:Nat)
 |ins (C dx:Addr) (fs:List (Str×V))
 |own (x:Addr)
 |xd (fs:List (Str×V))
 |met (f x:Addr)
 |rng (lo hi:Int)
 |frz (o:Obj) (u:HO)
 |tbl (ps:Array Value)
 |ext (φ: Heap->Prop)
abbrev Hp:=Addr->Option HO
def aJ (H:Hp) (a:Addr) (o:HO):Hp:=fun b=>if b=a then some o else H b
theorem aC {H:Hp}{a:Addr}{o:HO}:aJ H a o a=some o:=by unfold aJ;rw [bc rfl]
theorem aH {H:Hp}{a b:Addr}{o:HO}(h:b≠a):aJ H a o b=H b:=by unfold aJ;rw [ar h]
theorem aT0 {H:Hp}{a:Addr}{o u:HO}:aJ (aJ H a o) a u=aJ H a u:=by
 funext b;unfold aJ;split <;> rfl
theorem jE {H:Hp}{a b:Addr}{o u:HO}(h:H a=some o) (h':H b=some u) (d:o≠u):a≠b:=by
 intro e;subst e;rw [h] at h';exact d (dk h')
theorem aK {H:Hp}{a b:Addr}{o:HO}(h:H a=some o) (h':H b=none):a≠b:=by
 intro e;subst e;rw [h] at h';cases h'
def jI (h:Heap) (a:Addr) (its:Array Value):Prop:=∃ o,h.get? a=some o/\o.cls= .type "tuple"/\∃ n,o.data= .seq its n/\o.dict=none
theorem jI.is {h:Heap}{a:Addr}{its:Array Value}(x:jI h a its):IsTup h a its:=by obtain ⟨o,e,c,n,d,_⟩:=x;exact ⟨o,e,c,n,d⟩
theorem jI.new (h:Heap) (its:Array Value):jI (h.push { cls:= .type "tuple",data:= .seq its }) h.objs.size its:=⟨_,br _ rfl,rfl,_,rfl,rfl⟩
section
variable (P:Program) (w:World)
def cK (H:Hp) (h:Heap) (a:Addr):HO->Prop
 |.lst xs=>xs.length<=sizeLine/\∃ (its:List Value) (n:Nat),bN xs its/\h.get? a=some { cls:= .type "list",data:= .seq its.toArray n }
 |.tup xs=>xs.length<=sizeLine/\∃ its:List Value,bN xs its/\jI h a its.toArray
 |.dK kvs=>kvs.length<=sizeLine/\(a == sysModules)=false/\∃ vs,KV kvs vs/\h.DictOf (cG P w) a vs
 |.dT kvs=>kvs.length<=sizeLine/\(a == sysModules)=false/\∃ xs:List (List Key×Addr×Value),
   Paired (fun (p:List Key×V) (q:List Key×Addr×Value)=>p.1=q.1/\H q.2.1=some (.tup (p.1.map kV))/\bX p.2 q.2.2) kvs xs /\
   ∃ o es ep,h.get? a=some o/\o.ExactDict/\o.data= .dict es ep/\es.toList=xs.map (entryOfKey (tupleKind (cG P w)))/\(xs.map (·.1)).Nodup
 |.set S n=>h.SetOf (intKind P w) a S n
 |.ins C dx fs=>H dx=some (.own a)/\fs.length<=1000/\dx≠a/\h.get? a=some (PySem.W.instObj C dx) /\
   ∃ mA,h.Ns1 dx mA/\(∀ f,kW (fs.lookup f) (mA f))/\PySem.Within mA (fs.map (·.1))
 |.own _=>∃ o,h.get? a=some o
 |.xd fs=>∃ mA,h.Ns1 a mA/\∀ f,kW (fs.lookup f) (mA f)
 |.rng lo hi=>∃ t u v,h.get? a=some { cls:= .type "range",data:= .fields #[.int lo t,.int hi u,.int 1 v] }
 |.frz o u=>h.get? a=some o/\cK H h a u
 |.tbl ps=>h.get? a=some { cls:= .none,data:= .fields ps }
 |.met f x=>h.get? a=some (PySem.W.methodObj (.ref f) (.ref x))
 |.ext φ=>φ h/\(∃ o,h.get? a=some o)/\∀ h1 h2:Heap,φ h1->(∀ o,h1.get? a=some o->h2.get? a=some o)->φ h2
def jA (H:Hp) (h:Heap):Prop:=∀ a o,H a=some o->cK P w H h a o
end
section
variable {P:Program}{w:World}{H H':Hp}{h h':Heap}{a:Addr}{o:HO}
theorem cK.lt (x:cK P w H h a o):a < h.objs.size:=by
 cases o with
 |lst xs=>obtain ⟨_,_,_,_,e⟩:=x;exact aq e
 |tup xs=>obtain ⟨_,_,_,p⟩:=x;exact p.is.lt
 |dK kvs=>obtain ⟨_,_,_,_,o,_,_,e,_⟩:=x;exact aq e
 |dT kvs=>obtain ⟨_,_,_,_,o,_,_,e,_⟩:=x;exact aq e
 |set S n=>obtain ⟨o,_,_,_,e,_⟩:=x;exact aq e
 |ins C dx fs=>obtain ⟨_,_,_,e,_⟩:=x;exact aq e
 |own y=>obtain ⟨_,e⟩:=x;exact aq e
 |xd fs=>obtain ⟨_,⟨_,_,_,e,_⟩,_⟩:=x;exact aq e
 |rng lo hi=>obtain ⟨_,_,_,e⟩:=x;exact aq e
 |frz ob u=>obtain ⟨e,_⟩:=x;exact aq e
 |tbl ps=>exact aq (show h.get? a=some _ from x)
 |met f y=>exact aq (show h.get? a=some _ from x)
 |ext φ=>obtain ⟨_,⟨_,e⟩,_⟩:=x;exact aq e
theorem Paired.mapP {α β: Type}{F G:α->β->Prop}:∀ {l₁:List α}{l₂:List β},Paired F l₁ l₂->(∀ a b,F a b->G a b)->Paired G l₁ l₂
 |_,_,.nil,_=> .nil
 |_,_,.cons r t,f=> .cons (f _ _ r) (Paired.mapP t f)
theorem cK.stay (x:cK P w H h a o) (k:∀ b u,(b=a\/H b=some (.own a))->h.get? b=some u->h'.get? b=some u)
  (ho:∀ b,H b=some (.own a)->H' b=some (.own a)) (ht:∀ b xs,H b=some (.tup xs)->H' b=some (.tup xs)):cK P w H' h' a o:=by
 induction o with
 |lst xs=>obtain ⟨z,its,n,r,e⟩:=x;exact ⟨z,its,n,r,k _ _ (.inl rfl) e⟩
 |tup xs=>obtain ⟨z,its,r,ob,e,c⟩:=x;exact ⟨z,its,r,ob,k _ _ (.inl rfl) e,c⟩
 |dK kvs=>obtain ⟨z,y,vs,r,ob,es,ep,e,c⟩:=x;exact ⟨z,y,vs,r,ob,es,ep,k _ _ (.inl rfl) e,c⟩
 |dT kvs =>
  obtain ⟨z,y,xs,r,ob,es,ep,e,c⟩:=x
  exact ⟨z,y,xs,Paired.mapP r fun p q z=>⟨z.1,ht _ _ z.2.1,z.2.2⟩,ob,es,ep,k _ _ (.inl rfl) e,c⟩
 |set S n=>obtain ⟨ob,es,ep,t,e,c⟩:=x;exact ⟨ob,es,ep,t,k _ _ (.inl rfl) e,c⟩
 |ins C dx fs =>
  obtain ⟨d,z,ne,e,mA,⟨od,es,ep,e2,c⟩,r⟩:=x
  exact ⟨ho _ d,z,ne,k _ _ (.inl rfl) e,mA,⟨od,es,ep,k _ _ (.inr d) e2,c⟩,r⟩
 |own y=>obtain ⟨ob,e⟩:=x;exact ⟨ob,k _ _ (.inl rfl) e⟩
 |xd fs=>obtain ⟨mA,⟨od,es,ep,e,c⟩,r⟩:=x;exact ⟨mA,⟨od,es,ep,k _ _ (.inl rfl) e,c⟩,r⟩
 |rng lo hi=>obtain ⟨t,u,v,e⟩:=x;exact ⟨t,u,v,k _ _ (.inl rfl) e⟩
 |frz ob u ih=>obtain ⟨e,q⟩:=x;exact ⟨k _ _ (.inl rfl) e,ih q⟩
 |tbl ps =>
  have e:h.get? a=some { cls:= .none,data:= .fields ps }:=x
  show h'.get? a=some { cls:= .none,data:= .fields ps }
  exact k a _ (.inl rfl) e
 |met f y =>
  have e:h.get? a=some (PySem.W.methodObj (.ref f) (.ref y)):=x
  show h'.get? a=some (PySem.W.methodObj (.ref f) (.ref y))
  exact k a _ (.inl rfl) e
 |ext φ=>obtain ⟨p,⟨o,e⟩,st⟩:=x;exact ⟨st _ _ p fun o q=>k _ _ (.inl rfl) q,⟨o,k _ _ (.inl rfl) e⟩,st⟩
theorem jA.lt (x:jA P w H h) (e:H a=some o):a < h.objs.size:=(x a o e).lt
theorem jA.fresh (x:jA P w H h) (e:h.objs.size<=a):H a=none:=by
 cases q:H a with
 |none=>rfl
 |some u=>exact absurd (bv (x.lt q) e) (ef _)
theorem jA.kept (x:jA P w H h) (k:∀ b u,h.get? b=some u->h'.get? b=some u):jA P w H h':=fun a o e =>
 (x a o e).stay (fun b u _ q=>k b u q) (fun _ q=>q) fun _ _ q=>q
theorem jA.laid (x:jA P w H h) (k:∀ b u,h.get? b=some u->h'.get? b=some u) (hp:h.objs.size<=a) (new:cK P w (aJ H a o) h' a o):jA P w (aJ H a o) h':=fun b u e=>by
 have hn:=x.fresh hp
 by_cases hb:b=a
 ·subst hb;rw [aC] at e;cases e;exact new
 ·rw [aH hb] at e
  exact (x b u e).stay (fun c v _ q=>k c v q) (fun c q=>by rw [aH (aK q hn)];exact q) fun c xs q=>by rw [aH (aK q hn)];exact q
end
def Rd (H:Hp) (a:Addr) (u:HO):Prop:=H a=some u\/∃ o,H a=some (.frz o u)
theorem Rd.ok {P:Program}{w:World}{H:Hp}{h:Heap}{a:Addr}{u:HO}(r:Rd H a u) (x:jA P w H h):cK P w H h a u:=by
 rcases r with r | ⟨o,r⟩
 ·exact x a u r
 ·obtain ⟨_,q⟩:=x a _ r
  exact q
def Mut:Option HO->Prop
 |some (.lst _)=>True
 |some (.dK _)=>True
 |some (.dT _)=>True
 |some (.set _ _)=>True
 |some (.ins _ _ _)=>True
 |some (.ext _)=>True
 |_=>False
section
variable {P:Program}{w:World}{H:Hp}{h h':Heap}{x e:Addr}{o':HO}
theorem jA.write (ok:jA P w H h) (mu:Mut (H x)) (he:e=x\/H e=some (.own x)) (k:∀ b u,b≠e->h.get? b=some u->h'.get? b=some u) (heo:∃ u,h'.get? e=some u)
  (new:cK P w (aJ H x o') h' x o'):jA P w (aJ H x o') h':=fun b u q=>by
 have nown:∀ c y,H c=some (.own y)->c≠x:=fun c y r z=>by subst z;rw [r] at mu;exact mu
 have ntup:∀ c xs,H c=some (.tup xs)->c≠x:=fun c xs r z=>by subst z;rw [r] at mu;exact mu
 by_cases hb:b=x
 ·subst hb;rw [aC] at q;cases q;exact new
 ·rw [aH hb] at q
  by_cases hbe:b=e
  ·have q':H b=some (.own x):=by
    rcases he with z | z
    ·exact absurd (hbe.trans z) hb
    ·rw [hbe];exact z
   rw [q] at q';cases q'
   obtain ⟨v,hv⟩:=heo
   exact ⟨v,by rw [hbe];exact hv⟩
  ·refine (ok b u q).stay (fun c v hc r=>k c v ?_ r) (fun c r=>by rw [aH (nown c b r)];exact r) fun c xs r=>by rw [aH (ntup c xs r)];exact r
   rcases hc with rfl | hc
   ·exact hbe
   ·rintro rfl
    rcases he with z | z
    ·exact nown c b hc z
    ·rw [hc] at z;cases z;exact hb rfl
end
structure Un (fs ex:List Addr) (H H':Hp) (h h':Heap):Prop where
 keep:∀ b o,h.get? b=some o->H b=none->b∉fs->b∉ex->h'.get? b=some o
 slot:∀ b o,h.get? b=some o->H b=none->b∈fs->b∉ex->∃ sl,h'.get? b=some { o with slots:=sl }
 free:∀ b o,h.get? b=some o->H b=none->b∉ex->H' b=none
 there:∀ b o,h.get? b=some o->b∉ex->∃ o',h'.get? b=some o'
 tups:∀ b xs,H b=some (.tup xs)->H' b=some (.tup xs)
 frzs:∀ b o u,H b=some (.frz o u)->H' b=some (.frz o u)
 tbls:∀ b ps,H b=some (.tbl ps)->∃ more,H' b=some (.tbl (ps++more))
section
variable {fs fs' ex ex':List Addr}{H H1 H2:Hp}{h h1 h2 h':Heap}{a x e:Addr}{o:HO}
theorem Un.any (u:Un fs ex H H1 h h1) {b:Addr}{ob:Obj}(q:h.get? b=some ob) (n:H b=none) (hx:b∉ex):∃ sl,h1.get? b=some { ob with slots:=sl }:=by
 by_cases hb:b∈fs
 ·exact u.slot b ob q n hb hx
 ·exact ⟨ob.slots,u.keep b ob q n hb hx⟩
theorem Un.kept (k:∀ b u,h.get? b=some u->h'.get? b=some u):Un fs ex H H h h' :=
 ⟨fun b ob q _ _ _=>k b ob q,fun b ob q _ _ _=>⟨ob.slots,k b ob q⟩,fun _ _ _ n _=>n,fun b ob q _=>⟨ob,k b ob q⟩,fun _ _ q=>q,fun _ _ _ q=>q,fun _ ps q=>⟨#[],by rw [q];simp⟩⟩
theorem Un.refl:Un fs ex H H h h:=Un.kept fun _ _ q=>q
theorem Un.laid (k:∀ b u,h.get? b=some u->h'.get? b=some u) (hp:h.objs.size<=a) (hn:H a=none):Un fs ex H (aJ H a o) h h' where
 keep:=fun b u q _ _ _=>k b u q
 slot:=fun b u q _ _ _=>⟨u.slots,k b u q⟩
 free:=fun b u q n _=>by rw [aH (cg (bv (aq q) hp))];exact n
 there:=fun b u q _=>⟨u,k b u q⟩
 tups:=fun b xs q=>by rw [aH (aK q hn)];exact q
 frzs:=fun b u xs q=>by rw [aH (aK q hn)];exact q
 tbls:=fun b ps q=>⟨#[],by rw [aH (aK q hn),q];simp⟩
theorem Un.write (mu:Mut (H x)) (he:e=x\/H e=some (.own x)) (k:∀ b u,b≠e->h.get? b=some u->h'.get? b=some u) (heo:∃ u,h'.get? e=some u):Un fs ex H (aJ H x o) h h':=by
 have hx:∀ b,H b=none->b≠x:=fun b n z=>by subst z;rw [n] at mu;exact mu
 have hb:∀ b,H b=none->b≠e:=fun b n z=>by
  subst z
  rcases he with r | r
  ·exact hx b n r
  ·rw [n] at r;cases r
 have hm:∀ b u,H b=some u->¬ Mut (some u)->b≠x:=fun b u q nm z=>by subst z;rw [q] at mu;exact nm mu
 refine ⟨fun b u q n _ _=>k b u (hb b n) q,fun b u q n _ _=>⟨u.slots,k b u (hb b n) q⟩,fun b u q n _=>by rw [aH (hx b n)];exact n,fun b u q _=>?_,
  fun b xs q=>by rw [aH (hm b _ q fun z=>z)];exact q,fun b u xs q=>by rw [aH (hm b _ q fun z=>z)];exact q,fun b ps q=>⟨#[],by rw [aH (hm b _ q fun z=>z),q];simp⟩⟩
 by_cases hbe:b=e
 ·subst hbe;exact heo
 ·exact ⟨u,k b u hbe q⟩
end
def trk (h:Heap) (H:Hp):List Addr:=(List.range h.objs.size).filter fun a=>(H a).isSome
def uI (h:Heap) (H:Hp):Heap:=PySem.W.hideAll h (trk h H)
theorem aB3 (h:Heap) (H:Hp):(uI h H).objs.size=h.objs.size:=PySem.W.hideAll_size _ _
theorem aM5 {h:Heap}{H:Hp}{b:Addr}{o:Obj}(e:h.get? b=some o) (n:H b=none):(uI h H).get? b=some o :=
 PySem.W.hideAll_get _ e fun hm=>by
  have q:(H b).isSome=true:=(lg.mp hm).2
  rw [n] at q;simp at q
theorem aP8 {h:Heap}{H:Hp}{b:Addr}{o:Obj}(e:(uI h H).get? b=some o):h.get? b=some o/\H b=none:=by
 have e':h.get? b=some o:=PySem.W.of_hideAll (trk h H) e
 refine ⟨e',?_⟩
 cases q:H b with
 |none=>rfl
 |some x =>
  have hm:b∈trk h H:=lg.mpr ⟨me.mpr (aq e'),by simp [q]⟩
  have z:(uI h H).get? b=none:=PySem.W.hideAll_none (trk h H) hm
  rw [z] at e;cases e
def aU8 (g h:Heap) (L:Addr):List (Addr×Obj):=(List.range h.objs.size).filterMap fun a=>if a=L\/(g.get? a).isSome=true then none else (h.get? a).map fun o=>(a,o)
def rest (g h:Heap) (L d:Addr):List (Addr×Obj):=(aU8 g h L).filter fun p=>decide (p.1≠d)
structure Mod (K:PySem.W.Frag) (mg:Str->Option Value) (base:Heap):Prop where
 kin:K.In base
 glob:base.Ns mainGlobals mg
 blt:∃ mb,base.Ns builtinsNs mb/\∀ x:Str,x≠"__name__"->mb x=bootBuiltins x
 nolimit:base.NoLimit
structure Cx where
 prog:Program
 w:World
 K:PySem.W.Frag
 mg:Str->Option Value
 base:Heap
 A:Around
 N:List Str
 s₀:Shared
 H₀:Hp
 env:Env
 outer:List Env
 stack:List Env
 ex:List Addr
 fn:Str->Bool
 calm:Bool
 pn:List (Addr×Obj)
 xe:Value->Shared->Prop
def jR (l:List Env):List Addr:=l.filterMap (·.frame)
abbrev Cx.fs (X:Cx):List Addr:=jR X.outer
def Vis (sc:Scope) (x:Str):Prop:=sc.names.lookup x=some .local\/sc.names.lookup x=some .cell\/sc.names.lookup x=some .free
def Loc (sc:Scope) (x:Str):Prop:=sc.names.lookup x=some .local\/sc.names.lookup x=some .cell
def bP5 (env:Env) (h:Heap) (m:Str->Option Value) (x:Str) (u:Value):Prop :=
 (env.kindOf x=some .local/\m x=some u)\/((env.kindOf x=some .cell\/env.kindOf x=some .free)/\∃ c,env.cells.lookup x=some c/\h.IsCell c (some u))
structure Cx.Ok (X:Cx):Prop where
 mod:Mod X.K X.mg X.base
 kind:X.env.scope.kind= .function
 glob:X.env.globals=mainGlobals
 blt:X.env.builtins=builtinsNs
 above:X.s₀.heap.objs.size<=X.env.locals
 inj:∀ x y c,X.env.cells.lookup x=some c->X.env.cells.lookup y=some c->x=y
 has:∀ x,(X.env.kindOf x=some .cell\/X.env.kindOf x=some .free)->∃ c,X.env.cells.lookup x=some c
 cab:∀ x c,X.fn x=true->X.env.cells.lookup x=some c->X.s₀.heap.objs.size<=c
 hd:X.calm=true->X.A.handled=none
 frames:X.A.frames=some X.stack
 stk:X.stack=X.outer\/(X.stack=X.env :: X.outer/\X.env.frame=some X.env.locals)
 exf:∀ b∈X.ex,b≠X.env.locals/\∀ x c,X.env.cells.lookup x=some c->c≠b
 bs:∀ b o,X.base.get? b=some o->X.s₀.heap.get? b=some o/\X.H₀ b=none
 bsz:X.base.objs.size<=X.s₀.heap.objs.size
 noex:∀ b o,X.base.get? b=some o->b∉X.ex
 exfs:∀ b∈X.ex,b∉X.fs
 funs:X.s₀.heap.FunFrames X.base X.outer
 frf:∀ b∈X.fs,X.H₀ b=none
structure bC (X:Cx) (pins:List (Addr×Obj)) (σ: List (Option V)) (H:Hp) (s:Shared):Prop where
 ok:X.Ok
 os:s.os=X.s₀.os
 bare:AllBare s.gens
 base:Un X.fs X.ex X.H₀ H X.s₀.heap s.heap
 loc:∃ m,s.heap.Ns X.env.locals m/\∀ (i:Nat) (x:Str) (v:V),X.N[i]?=some x->σ[i]?=some (some v)->Vis X.env.scope x->∃ u,bX v u/\bP5 X.env s.heap m x u
 cell:∀ x c,X.env.cells.lookup x=some c->∃ v,s.heap.IsCell c v
 free:H X.env.locals=none
 freeC:∀ x c,X.env.cells.lookup x=some c->H c=none
 pin:∀ p∈X.pn++pins,s.heap.get? p.1=some p.2/\H p.1=none/\p.1≠X.env.locals/\p.1∉X.fs/\∀ v,p.2.data≠ .cell v
 hok:jA X.prog X.w H s.heap
 len:σ.length=X.N.length
section
variable {X:Cx}{pins:List (Addr×Obj)}{σ: List (Option V)}{H H':Hp}{s:Shared}{h':Heap}
theorem Cx.Ok.nofr (ok:X.Ok) {b:Addr}{o:Obj}(e:X.base.get? b=some o):b∉X.fs:=fun hb=>by
 have:=(ok.funs.mem hb).1
 rw [e] at this;cases this
theorem bC.bs (I:bC X pins σ H s):∀ b o,X.base.get? b=some o->s.heap.get? b=some o/\H b=none:=fun b o e =>
 ⟨I.base.keep b o (I.ok.bs b o e).1 (I.ok.bs b o e).2 (I.ok.nofr e) (I.ok.noex b o e),I.base.free b o (I.ok.bs b o e).1 (I.ok.bs b o e).2 (I.ok.noex b o e)⟩
theorem bC.bk (I:bC X pins σ H s):∀ b o,X.base.get? b=some o->s.heap.get? b=some o:=fun b o e=>(I.bs b o e).1
theorem bC.mod (I:bC X pins σ H s):Mod X.K X.mg X.base:=I.ok.mod
theorem bC.kIn (I:bC X pins σ H s):X.K.In s.heap:=I.ok.mod.kin.keeps I.bk
theorem bC.lt (I:bC X pins σ H s):X.env.locals < s.heap.objs.size:=by obtain ⟨_,hn,_⟩:=I.loc;exact hn.lt
theorem bC.sz (I:bC X pins σ H s):X.s₀.heap.objs.size<=s.heap.objs.size:=cj I.ok.above (bu I.lt)
theorem bC.nofs (I:bC X pins σ H s) {a:Addr}(h:s.heap.objs.size<=a):a∉X.fs:=fun hb=>by
 obtain ⟨_,o,ho,_⟩:=I.ok.funs.mem hb
 exact absurd (bv (aq ho) (cj I.sz h)) (ef _)
theorem bC.cne (I:bC X pins σ H s):∀ x c,X.env.cells.lookup x=some c->c≠X.env.locals:=fun x c e z=>by
 obtain ⟨v,o,ho,hd⟩:=I.cell x c e
 obtain ⟨m,⟨o',es,ep,ho',hd',_⟩,_⟩:=I.loc
 rw [z,ho'] at ho;cases ho;rw [hd'] at hd;cases hd
theorem bC.funs (I:bC X pins σ H s):s.heap.FunFrames X.base X.outer:=by
 have all:∀ (l:List Env),(∀ b∈jR l,b∈X.fs)->X.s₀.heap.FunFrames X.base l->s.heap.FunFrames X.base l:=by
  intro l
  induction l with
  |nil=>intro _ _;trivial
  |cons env r ih =>
   intro hs hl
   obtain ⟨hk,⟨L,o,hf,hn,ho,hd⟩,hr⟩:=hl
   have hL:L∈X.fs:=hs L (by unfold jR;rw [kx,hf];exact bh)
   obtain ⟨sl,e⟩:=I.base.slot L o ho (I.ok.frf L hL) hL fun z=>I.ok.exfs L z hL
   exact ⟨hk,⟨L,_,hf,hn,e,hd⟩,ih (fun b hb=>hs b (by unfold jR;rw [kx,hf];exact ay _ hb)) hr⟩
 exact all X.outer (fun _ hb=>hb) I.ok.funs
theorem bC.stack (I:bC X pins σ H s):s.heap.FunFrames X.base X.stack:=by
 rcases I.ok.stk with e | ⟨e,hf⟩
 ·rw [e];exact I.funs
 ·rw [e]
  obtain ⟨m,hn,_⟩:=I.loc
  refine .cons (by rw [I.ok.kind];decide) hf hn ?_ I.funs
  exact oj (cj I.ok.bsz I.ok.above)
theorem bC.stkSub (I:bC X pins σ H s):∀ b∈jR X.stack,b∈X.env.locals :: X.fs:=fun b hb=>by
 rcases I.ok.stk with e | ⟨e,hf⟩
 ·rw [e] at hb;exact ay _ hb
 ·rw [e] at hb
  unfold jR at hb
  rw [kx,hf] at hb
  exact hb
theorem bC.stkFree (I:bC X pins σ H s):∀ b∈jR X.stack,H b=none:=fun b hb=>by
 rcases cq.mp (I.stkSub b hb) with e | hb
 ·rw [e];exact I.free
 ·obtain ⟨_,o,ho,_⟩:=I.ok.funs.mem hb
  exact I.base.free b o ho (I.ok.frf b hb) fun z=>I.ok.exfs b z hb
theorem bC.step {g':Array GenState}{t':Nat}{d':Drawn}{ch:List Addr}(I:bC X pins σ H s)
  (hch:∀ b∈ch,(b∈X.ex\/X.s₀.heap.objs.size<=b)/\b≠X.env.locals/\(∀ x c,X.env.cells.lookup x=some c->c≠b)/\∀ p∈X.pn++pins,p.1≠b)
  (keep:∀ b o,b≠X.env.locals->b∉X.fs->b∉ch->s.heap.get? b=some o->H b=none->h'.get? b=some o)
  (slot:∀ b o,b≠X.env.locals->b∈X.fs->b∉ch->s.heap.get? b=some o->H b=none->∃ sl,h'.get? b=some { o with slots:=sl }) (free:∀ b o,b∉ch->s.heap.get? b=some o->H b=none->H' b=none)
  (there:∀ b o,b∉ch->s.heap.get? b=some o->∃ o',h'.get? b=some o')
  (tups:∀ b xs,H b=some (.tup xs)->H' b=some (.tup xs)) (frzs:∀ b o u,H b=some (.frz o u)->H' b=some (.frz o u)) (tbls:∀ b ps,H b=some (.tbl ps)->∃ more,H' b=some (.tbl (ps++more)))
  (ns:∀ m,s.heap.Ns X.env.locals m->h'.Ns X.env.locals m) (hok:jA X.prog X.w H' h') (hg:AllBare g') :
  bC X pins σ H' { s with heap:=h',gens:=g',drawn:=d',toks:=t' }:=by
 have neL:∀ b o,X.s₀.heap.get? b=some o->b≠X.env.locals:=fun b o e=>cg (bv (aq e) I.ok.above)
 have neC:∀ b o,X.s₀.heap.get? b=some o->b∉X.ex->b∉ch:=fun b o e hx hb=>by
  rcases (hch b hb).1 with z | z
  ·exact hx z
  ·exact absurd (bv (aq e) z) (ef _)
 have cellK:∀ x c,X.env.cells.lookup x=some c->∀ v,s.heap.IsCell c v->h'.IsCell c v:=fun x c e v ⟨o,ho,hd⟩=>by
  have nch:c∉ch:=fun z=>(hch c z).2.2.1 x c e rfl
  by_cases hc:c∈X.fs
  ·obtain ⟨sl,q⟩:=slot c o (I.cne x c e) hc nch ho (I.freeC x c e)
   exact ⟨_,q,hd⟩
  ·exact ⟨o,keep c o (I.cne x c e) hc nch ho (I.freeC x c e),hd⟩
 refine ⟨I.ok,I.os,hg,⟨fun b o e n hb hx=>?_,fun b o e n hb hx=>?_,fun b o e n hx=>?_,fun b o e hx=>?_,fun b xs e=>tups b xs (I.base.tups b xs e),fun b o xs e=>frzs b o xs (I.base.frzs b o xs e),fun b ps e=>?_⟩,?_,fun x c e=>?_,?_,fun x c e=>?_,fun p hp=>?_,hok,I.len⟩
 ·exact keep b o (neL b o e) hb (neC b o e hx) (I.base.keep b o e n hb hx) (I.base.free b o e n hx)
 ·obtain ⟨sl,e1⟩:=I.base.slot b o e n hb hx
  obtain ⟨sl',e2⟩:=slot b _ (neL b o e) hb (neC b o e hx) e1 (I.base.free b o e n hx)
  exact ⟨sl',e2⟩
 ·obtain ⟨o',e1⟩:=I.base.there b o e hx
  exact free b o' (neC b o e hx) e1 (I.base.free b o e n hx)
 ·obtain ⟨o',e1⟩:=I.base.there b o e hx
  exact there b o' (neC b o e hx) e1
 ·obtain ⟨m1,e1⟩:=I.base.tbls b ps e
  obtain ⟨m2,e2⟩:=tbls b _ e1
  exact ⟨m1++m2,by rw [e2,Array.append_assoc]⟩
 ·obtain ⟨m,hn,hl⟩:=I.loc
  refine ⟨m,ns m hn,fun i x v e1 e2 e3=>?_⟩
  obtain ⟨u,r,l⟩:=hl i x v e1 e2 e3
  refine ⟨u,r,?_⟩
  rcases l with l | ⟨k,c,e,z⟩
  ·exact .inl l
  ·exact .inr ⟨k,c,e,cellK x c e _ z⟩
 ·obtain ⟨v,z⟩:=I.cell x c e
  exact ⟨v,cellK x c e v z⟩
 ·obtain ⟨m,⟨o,_,_,ho,_⟩,_⟩:=I.loc
  exact free _ o (fun z=>(hch _ z).2.1 rfl) ho I.free
 ·obtain ⟨v,o,ho,hd⟩:=I.cell x c e
  exact free c o (fun z=>(hch c z).2.2.1 x c e rfl) ho (I.freeC x c e)
 ·obtain ⟨e,n,ne,nf,d⟩:=I.pin p hp
  have nch:p.1∉ch:=fun z=>(hch p.1 z).2.2.2 p hp rfl
  exact ⟨keep p.1 p.2 ne nf nch e n,free p.1 p.2 nch e n,ne,nf,d⟩
theorem bC.un {t':Nat}(I:bC X pins σ H s) (u:Un X.fs [] H H' s.heap h') (hok:jA X.prog X.w H' h'):bC X pins σ H' { s with heap:=h',toks:=t' }:=by
 obtain ⟨m,⟨o,es,ep,ho,r⟩,_⟩:=id I.loc
 obtain ⟨sl,hL⟩:=u.any ho I.free (by simp)
 exact I.step (g':=s.gens) (d':=s.drawn) (ch:=[]) (fun _ z=>nomatch z) (fun b o _ hb _ e n=>u.keep b o e n hb (by simp)) (fun b o _ hb _ e n=>u.slot b o e n hb (by simp)) (fun b o _ e n=>u.free b o e n (by simp)) (fun b o _ e=>u.there b o e (by simp)) u.tups u.frzs u.tbls (fun m' hm=>by
  obtain ⟨o',es',ep',ho',r'⟩:=hm
  rw [ho] at ho';cases ho'
  exact ⟨_,es',ep',hL,r'⟩) hok I.bare
theorem bC.call {g':Array GenState}{t':Nat}{d':Drawn}{ch:List Addr}(I:bC X pins σ H s) (u:Un (jR X.stack) ch H H' s.heap h') (hok:jA X.prog X.w H' h') (hg:AllBare g')
  (hch:∀ b∈ch,(b∈X.ex\/X.s₀.heap.objs.size<=b)/\b≠X.env.locals/\(∀ x c,X.env.cells.lookup x=some c->c≠b)/\∀ p∈X.pn++pins,p.1≠b) :
  bC X pins σ H' { s with heap:=h',gens:=g',drawn:=d',toks:=t' }:=by
 obtain ⟨m,⟨o,es,ep,ho,r⟩,_⟩:=id I.loc
 obtain ⟨sl,hL⟩:=u.any ho I.free fun z=>(hch _ z).2.1 rfl
 exact I.step (ch:=ch) hch (fun b o hL hb hc e n=>u.keep b o e n (fun z=>(cq.mp (I.stkSub b z)).elim hL hb) hc) (fun b o _ _ hc e n=>u.any e n hc) (fun b o hc e n=>u.free b o e n hc) (fun b o hc e=>u.there b o e hc) u.tups u.frzs u.tbls (fun m' hm=>by
  obtain ⟨o',es',ep',ho',r'⟩:=hm
  rw [ho] at ho';cases ho'
  exact ⟨_,es',ep',hL,r'⟩) hok hg
theorem bC.turned {t':Nat}{it:Addr}(I:bC X pins σ H s) (k:∀ b o,b≠it->s.heap.get? b=some o->h'.get? b=some o) (hn:H it=none) (hL:it≠X.env.locals)
  (h1:it∈X.ex\/X.s₀.heap.objs.size<=it) (h2:∀ x c,X.env.cells.lookup x=some c->c≠it) (h3:∀ p∈X.pn++pins,p.1≠it):bC X pins σ H { s with heap:=h',toks:=t' }:=by
 have nit:∀ b u,H b=some u->b≠it:=fun b u e z=>by rw [z,hn] at e;cases e
 refine I.step (g':=s.gens) (d':=s.drawn) (ch:=[it]) (fun b hb=>?_) (fun b o _ _ hc e _=>k b o (fun z=>hc (by simp [z])) e) (fun b o _ _ hc e _=>⟨o.slots,k b o (fun z=>hc (by simp [z])) e⟩) (fun _ _ _ _ n=>n)
  (fun b o hc e=>⟨o,k b o (fun z=>hc (by simp [z])) e⟩) (fun _ _ e=>e) (fun _ _ _ e=>e) (fun b ps e=>⟨#[],by rw [e];simp⟩) (fun m hm=>?_) (fun b u e=>?_) I.bare
 ·have e:b=it:=by simpa using hb
  subst e
  exact ⟨h1,hL,h2,h3⟩
 ·obtain ⟨o,es,ep,ho,r⟩:=hm
  exact ⟨o,es,ep,k _ o (Ne.symm hL) ho,r⟩
 ·refine (I.hok b u e).stay (fun c v hc q=>k c v ?_ q) (fun _ q=>q) fun _ _ q=>q
  rcases hc with z | z
  ·rw [z];exact nit b u e
  ·exact nit c _ z
theorem bC.tok (I:bC X pins σ H s) (t:Nat):bC X pins σ H { s with toks:=t }:=I.un (h':=s.heap) (t':=t) Un.refl I.hok
theorem bC.kept {t':Nat}(I:bC X pins σ H s) (k:∀ b u,s.heap.get? b=some u->h'.get? b=some u):bC X pins σ H { s with heap:=h',toks:=t' }:=I.un (Un.kept k) (I.hok.kept k)
theorem bC.laid {a:Addr}{o:HO}{t':Nat}(I:bC X pins σ H s) (k:∀ b u,s.heap.get? b=some u->h'.get? b=some u) (hp:s.heap.objs.size<=a) (new:cK X.prog X.w (aJ H a o) h' a o) :
  bC X pins σ (aJ H a o) { s with heap:=h',toks:=t' }:=I.un (Un.laid k hp (I.hok.fresh hp)) (I.hok.laid k hp new)
theorem bC.write {x e:Addr}{o:HO}{t':Nat}(I:bC X pins σ H s) (mu:Mut (H x)) (he:e=x\/H e=some (.own x)) (k:∀ b u,b≠e->s.heap.get? b=some u->h'.get? b=some u) (heo:∃ u,h'.get? e=some u)
  (new:cK X.prog X.w (aJ H x o) h' x o):bC X pins σ (aJ H x o) { s with heap:=h',toks:=t' }:=I.un (Un.write mu he k heo) (I.hok.write mu he k heo new)
theorem bC.pins_of {pins':List (Addr×Obj)}(I:bC X pins σ H s) (h:∀ p∈pins',s.heap.get? p.1=some p.2/\H p.1=none/\p.1≠X.env.locals/\p.1∉X.fs/\∀ v,p.2.data≠ .cell v):bC X pins' σ H s :=
 ⟨I.ok,I.os,I.bare,I.base,I.loc,I.cell,I.free,I.freeC,fun p hp=>(du.mp hp).elim (fun z=>I.pin p (fg _ z)) (h p),I.hok,I.len⟩
theorem wH {N:List Str}(hN:N.Nodup) {i j:Nat}{x:Str}(a:N[i]?=some x) (b:N[j]?=some x):i=j:=by
 obtain ⟨h1,e1⟩:=az.mp a
 obtain ⟨h2,e2⟩:=az.mp b
 exact (rm hN).mp (e1.trans e2.symm)
theorem rP {M:Model}{A:Around}{E:Value->Shared->Prop}{i:Nat}{x:Str}{v:V}{u:Value}{Q:Unit->Shared->Prop}(I:bC X pins σ H s) (hN:X.N.Nodup) (hi:X.N[i]?=some x) (hx:Loc X.env.scope x) (r:bX v u)
  (h:∀ s',bC X pins (σ.set i (some v)) H s'->(∃ a,Heap.SameBut a s.heap s'.heap/\(a=X.env.locals\/X.env.cells.lookup x=some a))->Q () s') (hf:autoParam (X.fn x=true\/X.env.scope.names.lookup x=some .local) Rq3._auto_1):wpAny M A (storeName X.env x u) Q E s:=by
 obtain ⟨m,hn,hl⟩:=id I.loc
 have hcls:(X.env.scope.kind == .class || (X.env.scope.kind == .module && X.env.locals != X.env.globals))=false:=by rw [I.ok.kind];rfl
 have hiσ: i < σ.length:=by rw [I.len];exact (az.mp hi).1
 have cne:=I.cne
 have tracked:∀ {a:Addr}{h':Heap},(∃ o,s.heap.get? a=some o/\H a=none)->Heap.SameBut a s.heap h'->jA X.prog X.w H h':=fun {a h'} ha hs b ob e=>by
  obtain ⟨_,_,hfree⟩:=ha
  refine (I.hok b ob e).stay (fun c w' hc q=>(hs.2 c ?_).trans q) (fun _ q=>q) fun _ _ q=>q
  rintro rfl
  rcases hc with rfl | hc
  ·rw [hfree] at e;cases e
  ·rw [hfree] at hc;cases hc
 rcases hx with hk | hk
 ·refine wpAny_storeName_local hk hn (fun h' hn' hs=>?_) hcls
  obtain ⟨oL,_,_,hoL,_⟩:=id hn
  refine h _ ⟨I.ok,I.os,I.bare,⟨fun b o e n hb hx=>?_,fun b o e n hb hx=>?_,I.base.free,fun b o e hx=>?_,I.base.tups,I.base.frzs,I.base.tbls⟩,⟨_,hn',fun j y v' e1 e2 e3=>?_⟩,fun y c e=>?_,I.free,I.freeC,fun p hp=>?_,tracked ⟨oL,hoL,I.free⟩ hs,by simpa using I.len⟩ ⟨_,hs,.inl rfl⟩
  ·exact (hs.2 b (cg (bv (aq e) I.ok.above))).trans (I.base.keep b o e n hb hx)
  ·obtain ⟨sl,e1⟩:=I.base.slot b o e n hb hx
   exact ⟨sl,(hs.2 b (cg (bv (aq e) I.ok.above))).trans e1⟩
  ·obtain ⟨o',e1⟩:=I.base.there b o e hx
   exact ⟨o',(hs.2 b (cg (bv (aq e) I.ok.above))).trans e1⟩
  ·by_cases hj:j=i
   ·subst hj
    rw [hi] at e1;cases e1
    rw [na hiσ] at e2
    cases e2
    exact ⟨u,r,.inl ⟨hk,by simp⟩⟩
   ·rw [om (Ne.symm hj)] at e2
    obtain ⟨u',r',q⟩:=hl j y v' e1 e2 e3
    refine ⟨u',r',?_⟩
    rcases q with ⟨k,e⟩ | ⟨k,c,e,z⟩
    ·refine .inl ⟨k,?_⟩
     have:y≠x:=fun e=>hj (wH hN e1 (e ▸ hi))
     simp [this,e]
    ·exact .inr ⟨k,c,e,z.sameBut hs (cne y c e)⟩
  ·obtain ⟨w',z⟩:=I.cell y c e
   exact ⟨w',z.sameBut hs (cne y c e)⟩
  ·obtain ⟨e,n,ne,nf,d⟩:=I.pin p hp
   exact ⟨(hs.2 p.1 ne).trans e,n,ne,nf,d⟩
 ·have hfn:X.fn x=true:=by
   rcases hf with z | z
   ·exact z
   ·rw [z] at hk;cases hk
  obtain ⟨c,hc⟩:=I.ok.has x (.inl hk)
  obtain ⟨w',z⟩:=I.cell x c hc
  refine wpAny_storeName_cell I.ok.kind hk hc z (fun h' hc' hs=>?_)
  obtain ⟨oc,hoc,hocd⟩:=id z
  refine h { s with heap:=h' } ⟨I.ok,I.os,I.bare,⟨fun b o e n hb hx=>?_,fun b o e n hb hx=>?_,I.base.free,fun b o e hx=>?_,I.base.tups,I.base.frzs,I.base.tbls⟩,⟨m,hn.sameBut hs (Ne.symm (cne x c hc)),fun j y v' e1 e2 e3=>?_⟩,fun y c' e=>?_,I.free,I.freeC,fun p hp=>?_,tracked ⟨oc,hoc,I.freeC x c hc⟩ hs,by simpa using I.len⟩ ⟨c,hs,.inr hc⟩
  ·exact (hs.2 b (cg (bv (aq e) (I.ok.cab x c hfn hc)))).trans (I.base.keep b o e n hb hx)
  ·obtain ⟨sl,e1⟩:=I.base.slot b o e n hb hx
   exact ⟨sl,(hs.2 b (cg (bv (aq e) (I.ok.cab x c hfn hc)))).trans e1⟩
  ·obtain ⟨o',e1⟩:=I.base.there b o e hx
   exact ⟨o',(hs.2 b (cg (bv (aq e) (I.ok.cab x c hfn hc)))).trans e1⟩
  ·by_cases hj:j=i
   ·subst hj
    rw [hi] at e1;cases e1
    rw [na hiσ] at e2
    cases e2
    exact ⟨u,r,.inr ⟨.inl hk,c,hc,hc'⟩⟩
   ·rw [om (Ne.symm hj)] at e2
    obtain ⟨u',r',q⟩:=hl j y v' e1 e2 e3
    refine ⟨u',r',?_⟩
    rcases q with q | ⟨k,c',e,z'⟩
    ·exact .inl q
    ·refine .inr ⟨k,c',e,z'.sameBut hs ?_⟩
     rintro rfl
     exact hj (wH hN e1 (I.ok.inj _ _ _ e hc ▸ hi))
  ·by_cases hcc:c'=c
   ·subst hcc;exact ⟨_,hc'⟩
   ·obtain ⟨w2,z2⟩:=I.cell y c' e
    exact ⟨w2,z2.sameBut hs hcc⟩
  ·obtain ⟨e,n,ne,nf,d⟩:=I.pin p hp
   refine ⟨(hs.2 p.1 ?_).trans e,n,ne,nf,d⟩
   intro q
   rw [q,hoc] at e
   have q':oc=p.2:=dk e
   exact d w' (by rw [<- q'];exact hocd)
theorem gJ {M:Model}{A:Around}{E:Value->Shared->Prop}{i:Nat}{x:Str}{v:V}{u:Value}{Q:Unit->Shared->Prop}(I:bC X pins σ H s) (hN:X.N.Nodup) (hi:X.N[i]?=some x) (hx:Loc X.env.scope x) (r:bX v u)
  (h:∀ s',bC X pins (σ.set i (some v)) H s'->Q () s') (hf:autoParam (X.fn x=true\/X.env.scope.names.lookup x=some .local) Rq3._auto_1):wpAny M A (storeName X.env x u) Q E s :=
 rP I hN hi hx r (fun s' I' _=>h s' I') hf
theorem bC.call' {s':Shared}{ch:List Addr}(I:bC X pins σ H s) (ho:s'.os=s.os) (u:Un (jR X.stack) ch H H' s.heap s'.heap) (hok:jA X.prog X.w H' s'.heap) (hg:AllBare s'.gens)
  (hch:∀ b∈ch,(b∈X.ex\/X.s₀.heap.objs.size<=b)/\b≠X.env.locals/\(∀ x c,X.env.cells.lookup x=some c->c≠b)/\∀ p∈X.pn++pins,p.1≠b):bC X pins σ H' s':=by
 obtain ⟨h',g',d',t',o'⟩:=s'
 have e:o'=s.os:=ho
 subst e
 exact I.call (g':=g') (t':=t') (d':=d') u hok hg hch
end
abbrev XK:=Value->Option Addr->Hp->Prop
abbrev St:=List (Option V)
abbrev VK:=V->Hp->Prop
abbrev TE:=St->Hp->VK->Prop
abbrev TT:=St->Hp->(Bool->Hp->Prop)->Prop
abbrev TA:=St->Hp->(List V->Hp->Prop)->Prop
structure fY where
 nx:St->Hp->Prop
 rt:VK
 bk:St->Hp->Prop:=fun _ _=>False
 ct:St->Hp->Prop:=fun _ _=>False
abbrev TS:=fY->St->Hp->Prop
def EP (X:Cx) (pins:List (Addr×Obj)) (σ: St) (Q:VK) (u:Value) (s':Shared):Prop:=∃ v H',bC X pins σ H' s'/\bX v u/\Q v H'
def TP (X:Cx) (pins:List (Addr×Obj)) (σ: St) (Q:Bool->Hp->Prop) (b:Bool) (s':Shared):Prop:=∃ H',bC X pins σ H' s'/\Q b H'
def AP (X:Cx) (pins:List (Addr×Obj)) (σ: St) (Q:List V->Hp->Prop) (us:List Value) (s':Shared):Prop:=∃ vs H',bC X pins σ H' s'/\bN vs us/\Q vs H'
def SP (X:Cx) (pins:List (Addr×Obj)) (D:fY) (f:Flow) (s':Shared):Prop :=
 match f with
 |.next=>∃ σ' H',bC X pins σ' H' s'/\D.nx σ' H'
 |.brk=>∃ σ' H',bC X pins σ' H' s'/\D.bk σ' H'
 |.cont=>∃ σ' H',bC X pins σ' H' s'/\D.ct σ' H'
 |.ret u=>∃ v σ' H',bC X pins σ' H' s'/\bX v u/\D.rt v H'
def PE (X:Cx) (e:Expr) (t:TE):Prop :=
 ∀ (pins:List (Addr×Obj)) (s:Shared) (σ: St) (H:Hp) (Q:VK),bC X pins σ H s->t σ H Q->wpAny (model X.prog X.w) X.A (eval e X.env) (EP X pins σ Q) X.xe s
def PT (X:Cx) (e:Expr) (t:TT):Prop :=
 ∀ (pins:List (Addr×Obj)) (s:Shared) (σ: St) (H:Hp) (Q:Bool->Hp->Prop),bC X pins σ H s->t σ H Q->wpAny (model X.prog X.w) X.A (isTrue e X.env (eval e X.env)) (TP X pins σ Q) X.xe s
def PW (X:Cx) (e:Expr) (t:TT):Prop :=
 ∀ (whole:Sem Value) (pins:List (Addr×Obj)) (s:Shared) (σ: St) (H:Hp) (Q:Bool->Hp->Prop),bC X pins σ H s->t σ H Q->wpAny (model X.prog X.w) X.A (isTrue e X.env whole) (TP X pins σ Q) X.xe s
theorem PW.pt {X:Cx}{e:Expr}{t:TT}(h:PW X e t):PT X e t:=h _
def PA (X:Cx) (es:List Expr) (t:TA):Prop :=
 ∀ (pos:Pos) (pins:List (Addr×Obj)) (s:Shared) (σ: St) (H:Hp) (Q:List V->Hp->Prop),bC X pins σ H s->t σ H Q->wpAny (model X.prog X.w) X.A (spliced (backTo pos (starEach es X.env))) (AP X pins σ Q) X.xe s
def PS (X:Cx) (st:Stmt) (t:TS):Prop :=
 ∀ (pins:List (Addr×Obj)) (s:Shared) (σ: St) (H:Hp) (D:fY),bC X pins σ H s->t D σ H->wpAny (model X.prog X.w) X.A (exec st X.env) (SP X pins D) X.xe s
def oN (X:Cx) (st:List Stmt) (t:TS):Prop :=
 ∀ (pins:List (Addr×Obj)) (s:Shared) (σ: St) (H:Hp) (D:fY),bC X pins σ H s->t D σ H->wpAny (model X.prog X.w) X.A (execs st X.env) (SP X pins D) X.xe s
theorem dJ {α: Type}{t:Sem α}{Q Q':α->Shared->Prop}{M:Model}{A:Around}{E:Value->Shared->Prop}{s:Shared}(h:wpAny M A t Q E s) (hQ:∀ a s,Q a s->Q' a s):wpAny M A t Q' E s:=di h hQ fun _ _ x=>x
section
variable {X:Cx}
def bN7 (i:Nat):TE:=fun σ H Q=>∃ v,σ[i]?=some (some v)/\Q v H
def tC (v:V):TE:=fun _ H Q=>Q v H
theorem bB8 {i:Nat}{x:Str}{pos:Pos}(hN:X.N[i]?=some x) (hv:Vis X.env.scope x) (hd:autoParam ((x == ("__debug__": Str))=false) Rq1._auto_1) (hcd:autoParam ((x == ("__classdict__": Str))=false) Rq1._auto_1):PE X (.Name x pos) (bN7 i):=by
 intro pins s σ H Q I h
 obtain ⟨v,e,h⟩:=h
 obtain ⟨m,hn,hl⟩:=I.loc
 obtain ⟨u,r,l⟩:=hl i x v hN e hv
 have fin:EP X pins σ Q u s:=⟨v,H,I,r,h⟩
 rcases l with ⟨hk,hm⟩ | ⟨hk,c,hc,hcell⟩
 ·exact ym (vh I.ok.kind hk hn hm fin) hd
 ·rcases hk with hk | hk
  ·exact ym (vz I.ok.kind hk hc hcell fin) hd
  ·exact ym (wpAny_loadName_free I.ok.kind hk hc hcell fin hcd) hd
theorem aD {i j pos}:PE X (.Constant (.int i) j pos) (tC (.int i)):=fun _ _ _ H _ I h=>wpAny_Constant_int ⟨.int i,H,I.tok _,⟨_,rfl⟩,h⟩
theorem sQ {b j pos}:PE X (.Constant (.bool b) j pos) (tC (.bl b)):=fun _ _ _ H _ I h=>Constant_bool ⟨.bl b,H,I,rfl,h⟩
theorem aK3 {j pos}:PE X (.Constant .none j pos) (tC .non):=fun _ _ _ H _ I h=>Constant_none ⟨.non,H,I,rfl,h⟩
theorem aG {x j pos}:PE X (.Constant (.str x) j pos) (tC (.str x)):=fun _ _ _ H _ I h=>Calls.Constant_str ⟨.str x,H,I.tok _,⟨_,rfl⟩,h⟩
def Gl (X:Cx) (x:Str):Prop:=X.env.kindOf x=some .globalImplicit
theorem pK {E:Value->Shared->Prop}{pins:List (Addr×Obj)}{s:Shared}{σ: St}{H:Hp}{x:Str}{u:Value}{pos:Pos}{Q:Value->Shared->Prop}(I:bC X pins σ H s) (hg:Gl X x) (hm:X.mg x=some u) (h:Q u s)
  (hd:autoParam ((x == ("__debug__": Str))=false) Rq1._auto_1):wpAny (model X.prog X.w) X.A (eval (.Name x pos) X.env) Q E s :=
 qw I.ok.kind hg (Calls.loadGlobal_global (by rw [I.ok.glob];exact I.mod.glob.keeps I.bk) hm h) hd
theorem kD {E:Value->Shared->Prop}{pins:List (Addr×Obj)}{s:Shared}{σ: St}{H:Hp}{x:Str}{u:Value}{pos:Pos}{Q:Value->Shared->Prop}(I:bC X pins σ H s) (hg:Gl X x) (hm:X.mg x=none) (hv:bootBuiltins x=some u) (h:Q u s)
  (hn:autoParam (x≠"__name__") Rq1._auto_1) (hd:autoParam ((x == ("__debug__": Str))=false) Rq1._auto_1):wpAny (model X.prog X.w) X.A (eval (.Name x pos) X.env) Q E s:=by
 obtain ⟨mb,h1,h2⟩:=I.mod.blt
 exact qw I.ok.kind hg (Calls.loadGlobal_builtin (by rw [I.ok.glob];exact I.mod.glob.keeps I.bk) hm (by rw [I.ok.blt];exact h1.keeps I.bk) ((h2 x hn).trans hv) h) hd
theorem gT {x:Str}{v:V}{u:Value}{pos:Pos}(hg:Gl X x) (hm:X.mg x=some u) (r:bX v u) (hd:autoParam ((x == ("__debug__": Str))=false) Rq1._auto_1):PE X (.Name x pos) (tC v) :=
 fun _ _ _ H _ I h=>pK I hg hm ⟨v,H,I,r,h⟩ hd
theorem uU {x:Str}{v:V}{u:Value}{pos:Pos}(hg:Gl X x) (hm:X.mg x=none) (hv:bootBuiltins x=some u) (r:bX v u) (hn:autoParam (x≠"__name__") Rq1._auto_1) (hd:autoParam ((x == ("__debug__": Str))=false) Rq1._auto_1):PE X (.Name x pos) (tC v) :=
 fun _ _ _ H _ I h=>kD I hg hm hv ⟨v,H,I,r,h⟩ hn hd
variable {a b:Expr}{ta tb:TE}{pos:Pos}
def PC (X:Cx) (op:CmpOp) (a b:Expr) (t:TE):Prop :=
 ∀ (pins:List (Addr×Obj)) (s:Shared) (σ: St) (H:Hp) (Q:VK),bC X pins σ H s->t σ H Q ->
  wpAny (model X.prog X.w) X.A (eval a X.env) (fun v s₁=>wpAny (model X.prog X.w) X.A (eval b X.env) (fun u s₂=>wpAny (model X.prog X.w) X.A (compareOp op v u) (EP X pins σ Q) X.xe s₂) X.xe s₁) X.xe s
theorem wC (b:Expr) {op:CmpOp}(h:op≠ .In) (h2:op≠ .NotIn):behindInMarks op b=false:=by
 have e1:(op == CmpOp.In)=false:=by cases op <;> first | rfl | exact absurd rfl h
 have e2:(op == CmpOp.NotIn)=false:=by cases op <;> first | rfl | exact absurd rfl h2
 cases b <;> simp [behindInMarks,e1,e2]
def tB (t:TE):TT:=fun σ H Q=>t σ H fun x H1=>∃ c,x= .bl c/\Q c H1
theorem bB4 {op:CmpOp}{t:TE}(h:PC X op a b t) (h1:autoParam (behindInMarks op b=false) Rq14._auto_1):PE X (.Compare a [op] [b] pos) t:=fun pins s σ H Q I hw=>wpAny_Compare1 (h pins s σ H Q I hw) h1
theorem aY7 {op:CmpOp}{t:TE}(h:PC X op a b t) (h1:autoParam (behindInMarks op b=false) Rq14._auto_1):PT X (.Compare a [op] [b] pos) (tB t):=by
 intro pins s σ H Q I hw
 refine um (dJ (h pins s σ H _ I hw) fun v s1 h1=>dJ h1 fun u s2 h2=>dJ h2 fun c s3 ⟨x,H1,I1,r1,q1⟩=>?_) h1
 obtain ⟨d,rfl,q⟩:=q1
 cases r1
 exact dy ⟨H1,I1,q⟩
theorem jJ {e:Expr}{t:TE}(h:PE X e t) (he:autoParam (∀ whole,isTrue e X.env whole=(do let v <- whole;standAt e.pos;holding [v] (truthy v))) Rq6._auto_1):PT X e (tB t):=by
 intro pins s σ H Q I hw
 refine isTrue_plain (dJ (h pins s σ H _ I hw) ?_) (he _);rintro v s1 ⟨x,H1,I1,r1,q1⟩
 obtain ⟨d,rfl,q⟩:=q1
 cases r1
 exact dy ⟨H1,I1,q⟩
variable {tA tB':TT}{rest:List Expr}
def bX0 (t u:TT):TT:=fun σ H Q=>t σ H fun c H1=>if c=true then u σ H1 Q else Q false H1
def tOr (t u:TT):TT:=fun σ H Q=>t σ H fun c H1=>if c=true then Q true H1 else u σ H1 Q
def bX2 (t:TT):TT:=fun σ H Q=>t σ H fun c H1=>Q (!c) H1
theorem eU (ha:PT X a tA):PW X (.BoolOp .And [a] pos) tA:=by
 intro wh pins s σ H Q I h
 refine isTrue_and (dJ (ha pins s σ H Q I h) fun c s1 e=>?_)
 cases c with
 |true=>exact isTrue_and_nil e
 |false=>exact e
theorem mK (ha:PT X a tA):PW X (.BoolOp .Or [a] pos) tA:=by
 intro wh pins s σ H Q I h
 refine isTrue_or (dJ (ha pins s σ H Q I h) fun c s1 e=>?_)
 cases c with
 |false=>exact isTrue_or_nil e
 |true=>exact e
theorem eR (ha:PT X a tA) (hb:PW X (.BoolOp .And (b :: rest) pos) tB'):PW X (.BoolOp .And (a :: b :: rest) pos) (bX0 tA tB'):=by
 intro wh pins s σ H Q I h
 refine isTrue_and (dJ (ha pins s σ H _ I h) ?_);rintro c s1 ⟨H1,I1,q1⟩
 cases c with
 |true=>exact hb wh pins s1 σ H1 Q I1 q1
 |false=>exact ⟨H1,I1,q1⟩
theorem nI (ha:PT X a tA) (hb:PW X (.BoolOp .Or (b :: rest) pos) tB'):PW X (.BoolOp .Or (a :: b :: rest) pos) (tOr tA tB'):=by
 intro wh pins s σ H Q I h
 refine isTrue_or (dJ (ha pins s σ H _ I h) ?_);rintro c s1 ⟨H1,I1,q1⟩
 cases c with
 |true=>exact ⟨H1,I1,q1⟩
 |false=>exact hb wh pins s1 σ H1 Q I1 q1
theorem rC (ha:PT X a tA):PT X (.UnaryOp .Not a pos) (bX2 tA):=by
 intro pins s σ H Q I h
 exact isTrue_not (ha pins s σ H (fun c H1=>Q (!c) H1) I h)
def bL4 (ta tb:TE):TE:=fun σ H Q=>ta σ H fun x H1=>∃ c,x= .bl c/\if c=true then tb σ H1 Q else Q (.bl false) H1
def bW8 (ta tb:TE):TE:=fun σ H Q=>ta σ H fun x H1=>∃ c,x= .bl c/\if c=true then Q (.bl true) H1 else tb σ H1 Q
def bO2 (ta:TE):TE:=fun σ H Q=>ta σ H fun x H1=>∃ c,x= .bl c/\Q (.bl (!c)) H1
theorem nP {op} {t:TE}(h:PE X a t):PE X (.BoolOp op [a] pos) t:=fun pins s σ H Q I hw=>BoolOp_one (h pins s σ H Q I hw)
theorem xL (ha:PE X a ta) (hb:PE X (.BoolOp .And (b :: rest) pos) tb):PE X (.BoolOp .And (a :: b :: rest) pos) (bL4 ta tb):=by
 intro pins s σ H Q I h
 refine BoolOp_and (dJ (ha pins s σ H _ I h) ?_);rintro v s1 ⟨x,H1,I1,r1,q1⟩
 obtain ⟨c,rfl,q1⟩:=q1
 cases r1
 refine dy ?_
 cases c with
 |true=>exact hb pins s1 σ H1 Q I1 q1
 |false=>exact ⟨.bl false,H1,I1,rfl,q1⟩
theorem yZ (ha:PE X a ta) (hb:PE X (.BoolOp .Or (b :: rest) pos) tb):PE X (.BoolOp .Or (a :: b :: rest) pos) (bW8 ta tb):=by
 intro pins s σ H Q I h
 refine BoolOp_or (dJ (ha pins s σ H _ I h) ?_);rintro v s1 ⟨x,H1,I1,r1,q1⟩
 obtain ⟨c,rfl,q1⟩:=q1
 cases r1
 refine dy ?_
 cases c with
 |false=>exact hb pins s1 σ H1 Q I1 q1
 |true=>exact ⟨.bl true,H1,I1,rfl,q1⟩
theorem bD6 (ha:PE X a ta):PE X (.UnaryOp .Not a pos) (bO2 ta):=by
 intro pins s σ H Q I h
 refine UnaryOp_ (dJ (ha pins s σ H _ I h) ?_);rintro v s1 ⟨x,H1,I1,r1,q1⟩
 obtain ⟨c,rfl,q1⟩:=q1
 cases r1
 exact not_of (dy ⟨.bl (!c),H1,I1,rfl,q1⟩)
end
def bI (K:PySem.W.Frag) (H:Hp) (a:Addr) (xs:List V):Prop :=
 Rd H a (.lst xs) \/
  ∃ (o:Obj) (its:Array Value) (n:Nat),K.lookup a=some o/\o.cls= .type "list"/\o.dict=none/\o.data= .seq its n/\its.size<=sizeLine/\bN xs its.toList
def aQ (K:PySem.W.Frag) (H:Hp) (a:Addr) (xs:List V):Prop :=
 Rd H a (.tup xs) \/
  ∃ (o:Obj) (its:Array Value) (n:Nat),K.lookup a=some o/\o.cls= .type "tuple"/\o.data= .seq its n/\its.size<=sizeLine/\bN xs its.toList
def bV9:Value->Option V
 |.none=>some .non
 |.bool b=>some (.bl b)
 |.int i _=>some (.int i)
 |.str x _=>some (.str x)
 |.bytes b _=>some (.byt b)
 |.float b _=>some (.flt b)
 |.ref a=>some (.ref a)
 |.type n=>some (.ty n)
 |_=>none
theorem bX.abs {x:V}{u:Value}(r:bX x u):bV9 u=some x:=by
 cases x with
 |non=>cases r;rfl
 |bl _=>cases r;rfl
 |int _=>obtain ⟨t,rfl⟩:=r;rfl
 |str _=>obtain ⟨t,rfl⟩:=r;rfl
 |byt _=>obtain ⟨t,rfl⟩:=r;rfl
 |flt _=>obtain ⟨t,rfl⟩:=r;rfl
 |ref _=>cases r;rfl
 |ty _=>cases r;rfl
theorem bX.inj {x y:V}{u:Value}(r:bX x u) (q:bX y u):x=y:=dk (r.abs.symm.trans q.abs)
theorem bN.inj:∀ {xs ys:List V}{us:List Value},bN xs us->bN ys us->xs=ys
 |_,_,_,.nil,.nil=>rfl
 |_,_,_,.cons r t,.cons r' t'=>by rw [r.inj r',bN.inj t t']
section
variable {X:Cx}{pins:List (Addr×Obj)}{σ: St}{H:Hp}{s:Shared}{a:Addr}{xs ys:List V}
theorem bI.of {K:PySem.W.Frag}(h:H a=some (.lst xs)):bI K H a xs:= .inl (.inl h)
theorem aQ.of {K:PySem.W.Frag}(h:H a=some (.tup xs)):aQ K H a xs:= .inl (.inl h)
theorem bC.list (I:bC X pins σ H s) (h:bI X.K H a xs):∃ its:List Value,bN xs its/\PlainL s.heap a its.toArray/\xs.length<=sizeLine:=by
 rcases h with h | ⟨o,its,n,hk,hc,hd,hs,hz,r⟩
 ·obtain ⟨z,its,n,r,e⟩:=h.ok I.hok
  exact ⟨its,r,⟨_,n,e,rfl,rfl,rfl⟩,z⟩
 ·refine ⟨its.toList,r,⟨o,n,I.kIn a o hk,hc,hd,by simpa using hs⟩,?_⟩
  have e:=r.length
  simp only [Array.length_toList] at e
  omega
theorem bC.tuple (I:bC X pins σ H s) (h:aQ X.K H a xs):∃ its:List Value,bN xs its/\IsTup s.heap a its.toArray/\xs.length<=sizeLine:=by
 rcases h with h | ⟨o,its,n,hk,hc,hs,hz,r⟩
 ·obtain ⟨z,its,r,p⟩:=h.ok I.hok
  exact ⟨its,r,p.is,z⟩
 ·refine ⟨its.toList,r,⟨o,I.kIn a o hk,hc,n,by simpa using hs⟩,?_⟩
  have e:=r.length
  simp only [Array.length_toList] at e
  omega
theorem bC.list_inj (I:bC X pins σ H s) (h:bI X.K H a xs) (h':bI X.K H a ys):xs=ys:=by
 obtain ⟨its,r,⟨o,n,e,_,_,d⟩,_⟩:=I.list h
 obtain ⟨its',r',⟨o',n',e',_,_,d'⟩,_⟩:=I.list h'
 rw [e] at e';cases e'
 rw [d] at d'
 injection d' with d1 _
 have:its=its':=by simpa using dg Array.toList d1
 subst this
 exact r.inj r'
theorem bC.tuple_inj (I:bC X pins σ H s) (h:aQ X.K H a xs) (h':aQ X.K H a ys):xs=ys:=by
 obtain ⟨its,r,⟨o,e,_,n,d⟩,_⟩:=I.tuple h
 obtain ⟨its',r',⟨o',e',_,n',d'⟩,_⟩:=I.tuple h'
 rw [e] at e';cases e'
 rw [d] at d'
 injection d' with d1 _
 have:its=its':=by simpa using dg Array.toList d1
 subst this
 exact r.inj r'
end
abbrev Cx.wish (X:Cx) (E:Value->Shared->Prop):Cx:={ X with xe:=E }
abbrev Cx.nox (X:Cx):Cx:=X.wish fun _ _=>False
theorem Cx.Ok.wish {X:Cx}(ok:X.Ok) (E:Value->Shared->Prop):(X.wish E).Ok :=
 ⟨ok.mod,ok.kind,ok.glob,ok.blt,ok.above,ok.inj,ok.has,ok.cab,ok.hd,ok.frames,ok.stk,ok.exf,ok.bs,ok.bsz,ok.noex,ok.exfs,ok.funs,ok.frf⟩
theorem Cx.Ok.unwish {X:Cx}{E:Value->Shared->Prop}(ok:(X.wish E).Ok):X.Ok :=
 ⟨ok.mod,ok.kind,ok.glob,ok.blt,ok.above,ok.inj,ok.has,ok.cab,ok.hd,ok.frames,ok.stk,ok.exf,ok.bs,ok.bsz,ok.noex,ok.exfs,ok.funs,ok.frf⟩
section
variable {X:Cx}{pins:List (Addr×Obj)}{σ: St}{H:Hp}{s:Shared}{E:Value->Shared->Prop}
theorem bC.wish (I:bC X pins σ H s) (E:Value->Shared->Prop):bC (X.wish E) pins σ H s:=⟨I.ok.wish E,I.os,I.bare,I.base,I.loc,I.cell,I.free,I.freeC,I.pin,I.hok,I.len⟩
theorem bC.unwish (I:bC (X.wish E) pins σ H s):bC X pins σ H s:=⟨I.ok.unwish,I.os,I.bare,I.base,I.loc,I.cell,I.free,I.freeC,I.pin,I.hok,I.len⟩
theorem SP.unwish {D:fY}{f:Flow}{s':Shared}(h:SP (X.wish E) pins D f s'):SP X pins D f s':=by
 cases f with
 |next=>obtain ⟨σ',H',I,q⟩:=h;exact ⟨σ',H',I.unwish,q⟩
 |brk=>obtain ⟨σ',H',I,q⟩:=h;exact ⟨σ',H',I.unwish,q⟩
 |cont=>obtain ⟨σ',H',I,q⟩:=h;exact ⟨σ',H',I.unwish,q⟩
 |ret u=>obtain ⟨v,σ',H',I,r,q⟩:=h;exact ⟨v,σ',H',I.unwish,r,q⟩
theorem oN.nox {st:List Stmt}{t:TS}(h:oN X.nox st t):oN X st t:=fun pins s σ H D I hw =>
 di (h pins s σ H D (I.wish _) hw) (fun _ _ q=>q.unwish) fun _ _ z=>False.elim z
end
section
variable {X:Cx}{st:Stmt}{rest:List Stmt}{t u:TS}{e:Expr}{te:TE}{pos:Pos}
def tNext:TS:=fun D σ H=>D.nx σ H
def bH7 (t u:TS):TS:=fun D σ H=>t { D with nx:=u D } σ H
theorem aO:oN X [] tNext:=fun _ _ σ H _ I h=>lh ⟨σ,H,I,h⟩
theorem aE (h1:PS X st t) (h2:oN X rest u):oN X (st :: rest) (bH7 t u):=by
 intro pins s σ H D I h
 refine rp (dJ (h1 pins s σ H { D with nx:=u D } I h) fun f s1 q=>?_)
 cases f with
 |next =>
  obtain ⟨σ',H',I',q⟩:=q
  exact h2 pins s1 σ' H' D I' q
 |ret v=>exact q
 |brk=>exact q
 |cont=>exact q
theorem aF (h1:PS X st t):oN X [st] t:=by
 intro pins s σ H D I h
 refine rp (dJ (h1 pins s σ H D I h) fun f s1 q=>?_)
 cases f with
 |next=>exact lh q
 |ret v=>exact q
 |brk=>exact q
 |cont=>exact q
theorem bC.quiet {pins:List (Addr×Obj)}{σ: St}{H:Hp}{s:Shared}(I:bC X pins σ H s):interactive X.env=false:=by simp [interactive,I.ok.kind]
def bO0 (te:TE):TS:=fun D σ H=>te σ H fun _ H1=>D.nx σ H1
theorem bR (he:PE X e te) (hs:autoParam (swapsWith e none pos.line X.env=pure false) Rq0._auto_1):PS X (.Expr e pos) (bO0 te):=by
 intro pins s σ H D I h
 refine wpAny_Expr_any (dJ (he pins s σ H _ I h) ?_) I.quiet hs;rintro v s1 ⟨x,H1,I1,r1,q1⟩;exact ⟨σ,H1,I1,q1⟩
def bX7 (te:TE):TS:=fun D σ H=>te σ H D.rt
theorem aU (he:PE X e te):PS X (.Return (some e) pos) (bX7 te):=by
 intro pins s σ H D I h
 refine wpAny_Return_some (dJ (he pins s σ H _ I h) ?_);rintro v s1 ⟨x,H1,I1,r1,q1⟩;exact ⟨x,σ,H1,I1,r1,q1⟩
def bV4 (c:TT) (t u:TS):TS:=fun D σ H=>c σ H fun b H1=>if b=true then t D σ H1 else u D σ H1
theorem bE {c:Expr}{a b:List Stmt}{tc:TT}(hc:PT X c tc) (ha:oN X a t) (hb:oN X b u):PS X (.If c a b pos) (bV4 tc t u):=by
 intro pins s σ H D I h
 refine wpAny_If (dJ (hc pins s σ H _ I h) ?_);rintro d s1 ⟨H1,I1,q1⟩
 cases d with
 |true=>exact ha pins s1 σ H1 D I1 q1
 |false=>exact hb pins s1 σ H1 D I1 q1
def tNever:TS:=fun _ _ _=>False
theorem aB8 {sts:List Stmt}:oN X sts tNever:=fun _ _ _ _ _ _ h=>h.elim
end
abbrev TG:=V->St->Hp->(St->Hp->Prop)->Prop
abbrev TGs:=List V->St->Hp->(St->Hp->Prop)->Prop
def PG (X:Cx) (target:Expr) (t:TG):Prop :=
 ∀ (pins:List (Addr×Obj)) (s:Shared) (σ: St) (H:Hp) (v:V) (u:Value) (Q:St->Hp->Prop),bC X pins σ H s->bX v u->t v σ H Q ->
  wpAny (model X.prog X.w) X.A (assign target X.env u) (fun _ s'=>∃ σ' H',bC X pins σ' H' s'/\Q σ' H') X.xe s
def PGs (X:Cx) (ts:List Expr) (t:TGs):Prop :=
 ∀ (pins:List (Addr×Obj)) (s:Shared) (σ: St) (H:Hp) (vs:List V) (us:List Value) (Q:St->Hp->Prop),bC X pins σ H s->bN vs us->t vs σ H Q ->
  wpAny (model X.prog X.w) X.A (assignInOrder ((assignEach ts X.env).map (·.2)) us) (fun _ s'=>∃ σ' H',bC X pins σ' H' s'/\Q σ' H') X.xe s
abbrev TSet:=V->V->V->Hp->(Hp->Prop)->Prop
def bJ9 (X:Cx) (t:TSet):Prop :=
 ∀ (pins:List (Addr×Obj)) (s:Shared) (σ: St) (H:Hp) (o i v:V) (ov iv u:Value) (Q:Hp->Prop),bC X pins σ H s->bX o ov->bX i iv->bX v u->t o i v H Q ->
  wpAny (model X.prog X.w) X.A (setItem ov iv u) (fun _ s'=>∃ H',bC X pins σ H' s'/\Q H') X.xe s
abbrev TIp:=V->V->Hp->VK->Prop
def PIp (X:Cx) (op:Operator) (t:TIp):Prop :=
 ∀ (pins:List (Addr×Obj)) (s:Shared) (σ: St) (H:Hp) (x y:V) (v u:Value) (Q:VK),bC X pins σ H s->bX x v->bX y u->t x y H Q ->
  wpAny (model X.prog X.w) X.A (inplaceOp op v u) (EP X pins σ Q) X.xe s
section
variable {X:Cx}{pos:Pos}
def tE (i:Nat):TG:=fun v σ H Q=>Q (σ.set i (some v)) H
theorem pC {i:Nat}{x:Str}(hN:X.N.Nodup) (hi:X.N[i]?=some x) (hx:Loc X.env.scope x) (hf:autoParam (X.fn x=true\/X.env.scope.names.lookup x=some .local) Rq3._auto_1):PG X (.Name x pos) (tE i):=by
 intro pins s σ H v u Q I r h
 exact xf (gJ I hN hi hx r (fun s' I'=>⟨_,H,I',h⟩) hf)
def gNil:TGs:=fun vs σ H Q=>vs=[]/\Q σ H
def bO1 (t:TG) (u:TGs):TGs:=fun vs σ H Q=>∃ v r,vs=v :: r/\t v σ H fun σ' H'=>u r σ' H' Q
theorem dN:PGs X [] gNil:=by
 intro pins s σ H vs us Q I r h
 obtain ⟨e,h⟩:=h
 subst e
 cases r
 exact xg ⟨σ,H,I,h⟩
theorem aY {e:Expr}{es:List Expr}{t:TG}{u:TGs}(h1:PG X e t) (h2:PGs X es u)
  (hs:autoParam ((assignEach (e :: es) X.env).map (·.2)=assign e X.env :: (assignEach es X.env).map (·.2)) Rq0._auto_1):PGs X (e :: es) (bO1 t u):=by
 intro pins s σ H vs us Q I r h
 obtain ⟨v,vr,e1,h⟩:=h
 subst e1
 cases r with
 |cons r rr =>
  rw [hs]
  refine lu (dJ (h1 pins s σ H _ _ _ I r h) ?_);rintro _ s1 ⟨σ1,H1,I1,q1⟩
  exact h2 pins s1 σ1 H1 _ _ Q I1 rr q1
def bK4 (K:PySem.W.Frag) (n:Nat) (t:TGs):TG:=fun v σ H Q=>∃ a xs,v= .ref a/\aQ K H a xs/\xs.length=n/\t xs σ H Q
theorem eG {es:List Expr}{k:Nat}{t:TGs}{n:Nat}(hc:X.calm=true) (h:PGs X es t)
  (hn:autoParam ((assignEach es X.env).length=n) Rq0._auto_1) (hst:autoParam ((assignEach es X.env).findIdx? (·.1)=none) Rq0._auto_1):PG X (.Tuple es k pos) (bK4 X.K n t):=by
 intro pins s σ H v u Q I r hw
 obtain ⟨a,xs,e1,hq,hl,hw⟩:=hw
 subst e1
 cases r
 obtain ⟨its,rv,ht,hz⟩:=I.tuple hq
 refine assign_Tuple_tuple (I.ok.hd hc) ht (by simp [hn, <- hl,rv.length]) hst fun h' hx=>?_
 have I1:bC X pins σ H { s with heap:=h' }:=I.kept (t':=s.toks) fun b o e=>hx b o (cg (aq e)) e
 exact h pins _ σ H xs _ Q I1 (by simpa using rv) hw
def aL3 (te:TE) (g:TG):TS:=fun D σ H=>te σ H fun x H1=>g x σ H1 D.nx
theorem fU {tg e:Expr}{te:TE}{g:TG}(he:PE X e te) (hg:PG X tg g) (hs:autoParam (swapsWithSole [tg] e pos.line X.env=pure false) Rq0._auto_1) (hw:autoParam (swappedStores [tg] e X.env=pure none) Rq0._auto_1)
  (h1:autoParam ((assignEach [tg] X.env).map (·.2)=[assign tg X.env]) Rq0._auto_1):PS X (.Assign [tg] e pos) (aL3 te g):=by
 intro pins s σ H D I h
 refine wpAny_Assign_stores (dJ (he pins s σ H _ I h) ?_) hs hw;rintro v s1 ⟨x,H1,I1,r1,q1⟩
 rw [h1]
 exact dJ (hg pins s1 σ H1 x v _ I1 r1 q1) fun _ s2 q=>q
theorem jK {i:Nat}{x:Str}{e:Expr}{te:TE}{pos':Pos}(hN:X.N.Nodup) (hi:X.N[i]?=some x) (hx:Loc X.env.scope x) (he:PE X e te) (hs:autoParam (swapsWith e (some (.Name x pos')) pos.line X.env=pure false) Rq0._auto_1) (hf:autoParam (X.fn x=true\/X.env.scope.names.lookup x=some .local) Rq3._auto_1) :
  PS X (.Assign [.Name x pos'] e pos) (aL3 te (tE i)):=by
 intro pins s σ H D I h
 refine wpAny_Assign_Name (dJ (he pins s σ H _ I h) ?_) hs;rintro v s1 ⟨y,H1,I1,r1,q1⟩
 exact gJ I1 hN hi hx r1 (fun s2 I2=>⟨_,H1,I2,q1⟩) hf
def bX5 (i:Nat) (te:TE) (ti:TIp):TS:=fun D σ H=>∃ x,σ[i]?=some (some x)/\te σ H fun y H1=>ti x y H1 fun z H2=>D.nx (σ.set i (some z)) H2
theorem bH6 {i:Nat}{x:Str}{e:Expr}{te:TE}{op:Operator}{ti:TIp}{pos':Pos}(hN:X.N.Nodup) (hi:X.N[i]?=some x) (hx:Loc X.env.scope x) (he:PE X e te) (ho:PIp X op ti) (hf:autoParam (X.fn x=true\/X.env.scope.names.lookup x=some .local) Rq3._auto_1) :
  PS X (.AugAssign (.Name x pos') op e pos) (bX5 i te ti):=by
 intro pins s σ H D I h
 obtain ⟨v,e1,h⟩:=h
 obtain ⟨m,hn,hl⟩:=I.loc
 have vis:Vis X.env.scope x:=by rcases hx with k | k;exact .inl k;exact .inr (.inl k)
 obtain ⟨u,r,l⟩:=hl i x v hi e1 vis
 refine wpAny_AugAssign_Name ?_
 have go:wpAny (model X.prog X.w) X.A (eval e X.env) (fun w s₂=>wpAny (model X.prog X.w) X.A (inplaceOp op u w) (fun r s₃=>wpAny (model X.prog X.w) X.A (storeName X.env x r) (fun _=>SP X pins D .next) X.xe s₃) X.xe s₂) X.xe s:=by
  refine dJ (he pins s σ H _ I h) ?_;rintro w s1 ⟨y,H1,I1,r1,q1⟩
  refine dJ (ho pins s1 σ H1 v y u w _ I1 r r1 q1) ?_;rintro z s2 ⟨zv,H2,I2,r2,q2⟩
  exact gJ I2 hN hi hx r2 (fun s3 I3=>⟨_,H2,I3,q2⟩) hf
 rcases l with ⟨hk,hm⟩ | ⟨hk,c,hc,hcell⟩
 ·exact vh I.ok.kind hk hn hm go
 ·rcases hk with hk | hk
  ·exact vz I.ok.kind hk hc hcell go
  ·rcases hx with k | k
   ·have:X.env.scope.names.lookup x=some .free:=hk
    rw [k] at this;cases this
   ·have:X.env.scope.names.lookup x=some .free:=hk
    rw [k] at this;cases this
def bT9 (to ti te:TE) (tget:V->V->Hp->VK->Prop) (tip:TIp) (tset:TSet):TS:=fun D σ H=>to σ H fun o H1=>ti σ H1 fun i H2=>tget o i H2 fun x H3=>te σ H3 fun y H4=>tip x y H4 fun z H5=>tset o i z H5 fun H6=>D.nx σ H6
def bN4 (X:Cx) (t:V->V->Hp->VK->Prop):Prop :=
 ∀ (pins:List (Addr×Obj)) (s:Shared) (σ: St) (H:Hp) (o i:V) (ov iv:Value) (Q:VK),bC X pins σ H s->bX o ov->bX i iv->t o i H Q ->
  wpAny (model X.prog X.w) X.A (getItem ov iv) (EP X pins σ Q) X.xe s
theorem uH {o i e:Expr}{to ti te:TE}{tget:V->V->Hp->VK->Prop}{tip:TIp}{tset:TSet}{op:Operator}{tpos:Pos}(ho:PE X o to) (hi:PE X i ti) (hg:bN4 X tget) (he:PE X e te) (hp:PIp X op tip) (hs:bJ9 X tset)
  (ha:autoParam (∀ ov iv new,augStore i ov iv new=(do holding [new,ov,iv] (setItem ov iv new);release [new,ov,iv] [];pure .next)) Rq4._auto_1):PS X (.AugAssign (.Subscript o i tpos) op e pos) (bT9 to ti te tget tip tset):=by
 intro pins s σ H D I h
 refine wpAny_AugAssign_SubscriptAny (dJ (ho pins s σ H _ I h) ?_) ha;rintro ov s1 ⟨x1,H1,I1,r1,q1⟩
 refine dJ (hi pins s1 σ H1 _ I1 q1) ?_;rintro iv s2 ⟨x2,H2,I2,r2,q2⟩
 refine dJ (hg pins s2 σ H2 x1 x2 ov iv _ I2 r1 r2 q2) ?_;rintro old s3 ⟨x3,H3,I3,r3,q3⟩
 refine dJ (he pins s3 σ H3 _ I3 q3) ?_;rintro v s4 ⟨x4,H4,I4,r4,q4⟩
 refine dJ (hp pins s4 σ H4 x3 x4 old v _ I4 r3 r4 q4) ?_;rintro new s5 ⟨x5,H5,I5,r5,q5⟩
 refine dJ (hs pins s5 σ H5 x1 x2 x5 ov iv new _ I5 r1 r2 r5 q5) ?_;rintro _ s6 ⟨H6,I6,q6⟩;exact ⟨σ,H6,I6,q6⟩
def ipI (f:Int->Int->Int):TIp:=fun x y H Q=>∃ i j,x= .int i/\y= .int j/\Q (.int (f i j)) H
theorem tW:PIp X .Add (ipI fun i j=>i+j):=by
 intro pins s σ H x y v u Q I r1 r2 h
 obtain ⟨i,j,e1,e2,q⟩:=h
 subst e1;subst e2
 obtain ⟨t,rfl⟩:=r1
 obtain ⟨t',rfl⟩:=r2
 exact iadd_int ⟨.int _,H,I.tok _,⟨_,rfl⟩,q⟩
def bI7 (c:TT) (tb:TS):TS:=fun D σ H=>∃ W:Nat->St->Hp->Prop,(∃ m,W m σ H)/\∀ m σ H,W m σ H ->
 c σ H fun b H1=>if b=true then ∃ N:St->Hp->Prop,(∀ σ' H',N σ' H'->∃ m',m' < m/\W m' σ' H')/\tb { D with nx:=N,ct:=N,bk:=D.nx } σ H1 else D.nx σ H1
theorem rG {c:Expr}{body:List Stmt}{tc:TT}{tb:TS}(hp:PassesOwn (model X.prog X.w) X.A X.env X.xe) (hc:PT X c tc) (hb:oN X body tb):PS X (.While c body [] pos) (bI7 tc tb):=by
 intro pins s σ H D I h
 obtain ⟨W,⟨m0,w0⟩,turn⟩:=h
 refine wpAny_While (codeAny_whileLoop (fun n s'=>∃ σ' H',bC X pins σ' H' s'/\W n σ' H') ?_ m0 ⟨σ,H,I,w0⟩)
 rintro n s1 ⟨σ1,H1,I1,w1⟩
 refine iz hp (dJ (hc pins s1 σ1 H1 _ I1 (turn n σ1 H1 w1)) ?_);rintro b s2 ⟨H2,I2,q2⟩
 cases b with
 |true =>
  obtain ⟨N,hN,q2⟩:=q2
  rw [bc rfl]
  refine iz hp (dJ (hb pins s2 σ1 H2 _ I2 q2) fun f s3 q3=>?_)
  cases f with
  |next =>
   obtain ⟨σ3,H3,I3,n3⟩:=q3
   obtain ⟨m',hm,w3⟩:=hN σ3 H3 n3
   exact ⟨m',hm,σ3,H3,I3,w3⟩
  |cont =>
   obtain ⟨σ3,H3,I3,n3⟩:=q3
   obtain ⟨m',hm,w3⟩:=hN σ3 H3 n3
   exact ⟨m',hm,σ3,H3,I3,w3⟩
  |brk=>exact q3
  |ret v=>exact q3
 |false =>
  rw [ar bi]
  exact lh ⟨σ1,H2,I2,q2⟩
end
structure It where
 go:Nat->Hp->Prop
 yld:Nat->Hp->V->Hp->Prop
 stop:Nat->Hp->Prop
def mH (X:Cx) (pins:List (Addr×Obj)) (H:Hp) (b:Addr):Prop :=
 H b=none/\b≠X.env.locals/\b∉X.fs/\(b∈X.ex\/X.s₀.heap.objs.size<=b)/\(∀ x c,X.env.cells.lookup x=some c->c≠b)/\∀ p∈X.pn++pins,p.1≠b
theorem bC.fpOk {X:Cx}{pins:List (Addr×Obj)}{σ: St}{H H':Hp}{s:Shared}{b:Addr}(I:bC X pins σ H s) (hb:s.heap.objs.size<=b) (hn:H' b=none):mH X pins H' b:=by
 refine ⟨hn,jh (bv I.lt hb),I.nofs hb,.inr (cj I.sz hb),fun x c e z=>?_,fun p hp z=>?_⟩
 ·obtain ⟨v,q⟩:=I.cell x c e
  exact absurd (bv q.lt (by rw [z];exact hb)) (ef _)
 ·exact absurd (bv (aq (I.pin p hp).1) (by rw [z];exact hb)) (ef _)
structure uP (P:Program) (w:World) (K:PySem.W.Frag) (tg:Expr) (J:It) (fp:List Addr) (it:Addr) (tn:Nat->Heap->Prop):Prop where
 mem:it∈fp
 obj:∀ i h,tn i h->∀ b∈fp,∃ o,h.get? b=some o/\∀ v,o.data≠ .cell v
 keep:∀ i h h',tn i h->(∀ b∈fp,∀ o,h.get? b=some o->h'.get? b=some o)->tn i h'
 item:∀ (X:Cx),X.prog=P->X.w=w->X.K=K->X.calm=true->∀ (i:Nat) (pins:List (Addr×Obj)) (s:Shared) (σ: St) (H:Hp) (E:Value->Shared->Prop),bC X pins σ H s->(∀ b∈fp,mH X pins H b)->tn i s.heap->J.go i H ->
  wpAny (model P w) X.A (pyNext (.ref it)) (fun r s1=>∃ u,r=some u /\
   wpAny (model P w) X.A (letOwnedTupleGo tg (.ref it) u) (fun _ s2=>∃ x H',bC X pins σ H' s2/\bX x u/\J.yld i H x H'/\tn (i+1) s2.heap/\∀ b∈fp,H' b=none) E s1) E s
 done:∀ (X:Cx),X.prog=P->X.w=w->X.K=K->X.calm=true->∀ (i:Nat) (pins:List (Addr×Obj)) (s:Shared) (σ: St) (H:Hp) (E:Value->Shared->Prop),bC X pins σ H s->(∀ b∈fp,mH X pins H b)->tn i s.heap->J.stop i H ->
  wpAny (model P w) X.A (pyNext (.ref it)) (fun r s1=>r=none/\bC X pins σ H s1) E s
 self:∀ (A:Around) (i:Nat) (s:Shared) (Q:Value->Shared->Prop) (E:Value->Shared->Prop),tn i s.heap->Q (.ref it) s->wpAny (model P w) A (pyIter (.ref it)) Q E s
abbrev TI:=St->Hp->(It->Hp->Prop)->Prop
def PIE (X:Cx) (pins:List (Addr×Obj)) (σ: St) (tg:Expr) (R:It->Hp->Prop) (itv:Value) (s2:Shared):Prop :=
 ∃ (it:Addr) (fp:List Addr) (tn:Nat->Heap->Prop) (J:It) (H':Hp),itv= .ref it/\bC X pins σ H' s2/\uP X.prog X.w X.K tg J fp it tn/\tn 0 s2.heap/\(∀ b∈fp,mH X pins H' b)/\R J H'
def PI (X:Cx) (tg iter:Expr) (wi:TI):Prop :=
 ∀ (pins:List (Addr×Obj)) (s:Shared) (σ: St) (H:Hp) (R:It->Hp->Prop),bC X pins σ H s->wi σ H R ->
  wpAny (model X.prog X.w) X.A (eval iter X.env) (fun v s1=>wpAny (model X.prog X.w) X.A (pyIter v) (PIE X pins σ tg R) X.xe s1) X.xe s
theorem go_of {M : Model}{A : Around}{E : Value -> Shared -> Prop}{s : Shared}{tg : Expr}{it : Addr}{u : Value}{o : Obj}{n : String}{vs : Array Value}{Q : Unit -> Shared -> Prop}(ho : s.heap.get? it = some o) (hc : o.cls = .type n) (hd : o.data = .fields vs)
    (hn : ["enumerate", "zip", "dict_itemiterator", "dict_reverseitemiterator", "odict_iterator", "itertools.zip_longest", "itertools.pairwise"].contains n = false) (hQ : Q () s) : wpAny M A (letOwnedTupleGo tg (.ref it) u) Q E s := by
  unfold letOwnedTupleGo
  cases tg <;> first
    | exact ao hQ
    | (cases u <;> first
        | exact ao hQ
        | (refine ac (wpAny_load ho ?_)
           rw [hc, hd]
           show wpAny M A (if (["enumerate", "zip", "dict_itemiterator", "dict_reverseitemiterator", "odict_iterator", "itertools.zip_longest", "itertools.pairwise"].contains n && vs[0]? == some (rawInt _)) = true then _ else _) Q E s
           rw [ar (by intro h; rw [hn, qe] at h; cases h)]
           exact ao hQ))
def Itl (K:PySem.W.Frag) (a:Addr):It :=
 ⟨fun i H=>∃ xs x,bI K H a xs/\xs[i]?=some x,fun i H x H'=>H'=H/\∀ xs,bI K H a xs->xs[i]?=some x,fun i H=>∃ xs,bI K H a xs/\xs.length<=i⟩
def Itt (K:PySem.W.Frag) (a:Addr):It :=
 ⟨fun i H=>∃ xs x,aQ K H a xs/\xs[i]?=some x,fun i H x H'=>H'=H/\∀ xs,aQ K H a xs->xs[i]?=some x,fun i H=>∃ xs,aQ K H a xs/\xs.length<=i⟩
def Itr (lo:Int) (n:Nat):It:=⟨fun i _=>i < n,fun i H x H'=>H'=H/\x= .int (lo+i),fun i _=>n<=i⟩
theorem aF7 {P:Program}{w:World}{K:PySem.W.Frag}{tg:Expr}(a it:Addr):uP P w K tg (Itl K a) [it] it (fun i h=>h.IsListIter it a i) where
 mem:=by simp
 obj:=fun i h st b hb=>by
  have e:b=it:=by simpa using hb
  subst e
  obtain ⟨o,e,c,d⟩:=st
  exact ⟨o,e,fun v z=>by rw [d] at z;cases z⟩
 keep:=fun i h h' st k=>st.at fun o e=>k it (by simp) o e
 item:=by
  intro X hP hw hK hc i pins s σ H E I hf st hg
  subst hP hw hK
  obtain ⟨xs,x,hq,hx⟩:=hg
  obtain ⟨its,rv,p,hz⟩:=I.list hq
  obtain ⟨u,hu,ru⟩:=rv.get hx
  obtain ⟨f0,f1,f2,f3,f4,f5⟩:=hf it (by simp)
  refine wpAny_pyNext_list_item st p.isList (x:=u) (by simpa using hu) fun h' st' sb=>?_
  have I1:bC X pins σ H { s with heap:=h' }:=I.turned (t':=s.toks) (fun b o hb e=>(sb.2 b hb).trans e) f0 f1 f3 f4 f5
  obtain ⟨o,e,c,d⟩:=id st'
  exact ⟨u,rfl,go_of (s:={ s with heap:=h' }) e c d (by decide) ⟨x,H,I1,ru,⟨rfl,fun ys hy=>by rw [I.list_inj hy hq];exact hx⟩,st',fun b hb=>(hf b hb).1⟩⟩
 done:=by
  intro X hP hw hK hc i pins s σ H E I hf st hg
  subst hP hw hK
  obtain ⟨xs,hq,hx⟩:=hg
  obtain ⟨its,rv,p,hz⟩:=I.list hq
  obtain ⟨f0,f1,f2,f3,f4,f5⟩:=hf it (by simp)
  have hl:=rv.length
  exact wpAny_pyNext_list_end (I.ok.hd hc) st p.isList (by simp;omega) fun h' eb=>⟨rfl,I.turned (t':=s.toks) (fun b o hb e=>eb b o hb e) f0 f1 f3 f4 f5⟩
 self:=fun _ _ _ _ _ st h=>wpAny_pyIter_listiter st h
theorem xX {P:Program}{w:World}{K:PySem.W.Frag}{tg:Expr}(a it:Addr):uP P w K tg (Itt K a) [it] it (fun i h=>h.IsTupleIter it a i) where
 mem:=by simp
 obj:=fun i h st b hb=>by
  have e:b=it:=by simpa using hb
  subst e
  obtain ⟨o,e,c,d⟩:=st
  exact ⟨o,e,fun v z=>by rw [d] at z;cases z⟩
 keep:=fun i h h' st k=>st.at fun o e=>k it (by simp) o e
 item:=by
  intro X hP hw hK hc i pins s σ H E I hf st hg
  subst hP hw hK
  obtain ⟨xs,x,hq,hx⟩:=hg
  obtain ⟨its,rv,p,hz⟩:=I.tuple hq
  obtain ⟨u,hu,ru⟩:=rv.get hx
  obtain ⟨f0,f1,f2,f3,f4,f5⟩:=hf it (by simp)
  refine wpAny_pyNext_tuple_item st (show s.heap.IsTuple a its.toArray from p) (x:=u) (by simpa using hu) fun h' st' sb=>?_
  have I1:bC X pins σ H { s with heap:=h' }:=I.turned (t':=s.toks) (fun b o hb e=>(sb.2 b hb).trans e) f0 f1 f3 f4 f5
  obtain ⟨o,e,c,d⟩:=id st'
  exact ⟨u,rfl,go_of (s:={ s with heap:=h' }) e c d (by decide) ⟨x,H,I1,ru,⟨rfl,fun ys hy=>by rw [I.tuple_inj hy hq];exact hx⟩,st',fun b hb=>(hf b hb).1⟩⟩
 done:=by
  intro X hP hw hK hc i pins s σ H E I hf st hg
  subst hP hw hK
  obtain ⟨xs,hq,hx⟩:=hg
  obtain ⟨its,rv,p,hz⟩:=I.tuple hq
  obtain ⟨f0,f1,f2,f3,f4,f5⟩:=hf it (by simp)
  have hl:=rv.length
  exact wpAny_pyNext_tuple_end (I.ok.hd hc) st (show s.heap.IsTuple a its.toArray from p) (by simp;omega) fun h' eb=>⟨rfl,I.turned (t':=s.toks) (fun b o hb e=>eb b o hb e) f0 f1 f3 f4 f5⟩
 self:=fun _ _ _ _ _ st h=>wpAny_pyIter_tupleiter st h
theorem xR {P:Program}{w:World}{K:PySem.W.Frag}{tg:Expr}(it:Addr) (lo:Int) (n:Nat):uP P w K tg (Itr lo n) [it] it (fun i h=>IsRangeIter h it (lo+(i:Nat) * 1) ((n:Int) - (i:Nat)) 1) where
 mem:=by simp
 obj:=fun i h st b hb=>by
  have e:b=it:=by simpa using hb
  subst e
  exact ⟨_,st,fun v z=>by
   have z':Data.fields _=Data.cell v:=z
   cases z'⟩
 keep:=fun i h h' st k=>k it (by simp) _ st
 item:=by
  intro X hP hw hK hc i pins s σ H E I hf st hg
  subst hP hw hK
  obtain ⟨f0,f1,f2,f3,f4,f5⟩:=hf it (by simp)
  have W:=Walks.range (prog:=X.prog) (w:=X.w) (I.ok.hd hc) it lo 1 n
  refine W.item i s _ _ hg st fun v h' tk hv st' kk=>?_
  obtain ⟨t,rfl⟩:=hv
  have I1:bC X pins σ H { s with heap:=h',toks:=tk }:=I.turned (fun b o hb e=>kk b o (by simpa using hb) e) f0 f1 f3 f4 f5
  refine ⟨_,rfl,go_of (s:={ s with heap:=h',toks:=tk }) (n:="range_iterator") st' rfl rfl (by decide) ⟨.int (lo+i),H,I1,⟨t,?_⟩,⟨rfl,rfl⟩,st',fun b hb=>(hf b hb).1⟩⟩
  rw [Int.mul_one]
 done:=by
  intro X hP hw hK hc i pins s σ H E I hf st hg
  subst hP hw hK
  obtain ⟨f0,f1,f2,f3,f4,f5⟩:=hf it (by simp)
  exact wpAny_pyNext_range_end (I.ok.hd hc) st (by have:n<=i:=hg;omega) fun h' eb=>⟨rfl,I.turned (t':=s.toks) (fun b o hb e=>eb b o hb e) f0 f1 f3 f4 f5⟩
 self:=fun _ _ _ _ _ st h=>wpAny_pyIter_rangeiter st h
section
variable {X:Cx}{tg:Expr}
def bU1 (K:PySem.W.Frag) (tl:TE):TI:=fun σ H R=>tl σ H fun x H1=>∃ a,x= .ref a/\(∃ xs,bI K H1 a xs)/\R (Itl K a) H1
def bR9 (K:PySem.W.Frag) (tl:TE):TI:=fun σ H R=>tl σ H fun x H1=>∃ a,x= .ref a/\(∃ xs,aQ K H1 a xs)/\R (Itt K a) H1
theorem dW {l:Expr}{tl:TE}(hl:PE X l tl):PI X tg l (bU1 X.K tl):=by
 intro pins s σ H R I h
 refine dJ (hl pins s σ H _ I h) ?_;rintro v s1 ⟨x,H1,I1,r1,q1⟩
 obtain ⟨a,e,⟨xs,hq⟩,q⟩:=q1
 subst e
 cases r1
 obtain ⟨its,rv,p,hz⟩:=I1.list hq
 refine jr p.isList ?_
 refine ⟨s1.heap.objs.size,[s1.heap.objs.size],_,_,H1,rfl,I1.kept (t':=s1.toks) fun b o e=>ah _ e,aF7 a _,⟨_,br _ rfl,rfl,rfl⟩,fun b hb=>?_,q⟩
 have e:b=s1.heap.objs.size:=by simpa using hb
 subst e
 exact I1.fpOk (ai _) (I1.hok.fresh (ai _))
theorem mC {l:Expr}{tl:TE}(hl:PE X l tl):PI X tg l (bR9 X.K tl):=by
 intro pins s σ H R I h
 refine dJ (hl pins s σ H _ I h) ?_;rintro v s1 ⟨x,H1,I1,r1,q1⟩
 obtain ⟨a,e,⟨xs,hq⟩,q⟩:=q1
 subst e
 cases r1
 obtain ⟨its,rv,p,hz⟩:=I1.tuple hq
 refine jm (show s1.heap.IsTuple a its.toArray from p) ?_
 refine ⟨s1.heap.objs.size,[s1.heap.objs.size],_,_,H1,rfl,I1.kept (t':=s1.toks) fun b o e=>ah _ e,xX a _,⟨_,br _ rfl,rfl,rfl⟩,fun b hb=>?_,q⟩
 have e:b=s1.heap.objs.size:=by simpa using hb
 subst e
 exact I1.fpOk (ai _) (I1.hok.fresh (ai _))
theorem aN3 {pins:List (Addr×Obj)}{σ: St}{H:Hp}{s:Shared}{R:It->Hp->Prop}{E:Value->Shared->Prop}{lo hi:Int}{t u v:Tok}{tk:Nat}(I:bC X pins σ H s) (h1: -(2 ^ 62)<=lo) (h2:lo < 2 ^ 62) (h3: -(2 ^ 62)<=hi) (h4:hi < 2 ^ 62)
  (q:R (Itr lo (hi - lo).toNat) H):wpAny (model X.prog X.w) X.A (pyIter (.ref s.heap.objs.size)) (PIE X pins σ tg R) E { s with heap:=s.heap.push { cls:= .type "range",data:= .fields #[.int lo t,.int hi u,.int 1 v] },toks:=tk }:=by
 refine wpAny_pyIter_range (IsRange.new ..) (small_one h1 h2 h3 h4) ?_
 have I1:bC X pins σ H { s with heap:=s.heap.push { cls:= .type "range",data:= .fields #[.int lo t,.int hi u,.int 1 v] },toks:=tk }:=I.kept fun b o e=>ah _ e
 refine ⟨(s.heap.push { cls:= .type "range",data:= .fields #[.int lo t,.int hi u,.int 1 v] }).objs.size,[(s.heap.push { cls:= .type "range",data:= .fields #[.int lo t,.int hi u,.int 1 v] }).objs.size],_,_,H,rfl,
  I1.kept (t':=tk) fun b o e=>ah _ e,xR _ lo (hi - lo).toNat,?_,fun b hb=>?_,q⟩
 ·have e1:lo+((0:Nat):Int) * 1=lo:=by simp
  have e2:(((hi - lo).toNat:Nat):Int) - ((0:Nat):Int)=Builtin.Range.rangeSize lo hi 1:=by rw [rangeSize_one];split <;> omega
  show IsRangeIter _ _ (lo+((0:Nat):Int) * 1) ((((hi - lo).toNat:Nat):Int) - ((0:Nat):Int)) 1
  rw [e1,e2]
  exact br _ rfl
 ·have e:b=(s.heap.push { cls:= .type "range",data:= .fields #[.int lo t,.int hi u,.int 1 v] }).objs.size:=by simpa using hb
  subst e
  exact I1.fpOk (ai _) (I1.hok.fresh (ai _))
def bS0 (ta:TA):TI:=fun σ H R=>ta σ H fun vs H1=>∃ j:Int,vs=[.int j]/\ -(2 ^ 62)<=j/\j < 2 ^ 62/\R (Itr 0 j.toNat) H1
theorem eZ {a:Expr}{ta:TA}{p pos:Pos}(hg:Gl X "range") (hm:X.mg "range"=none) (ha:PA X [a] ta) (hs:autoParam (starEach [a] X.env=[(false,eval a X.env)]) Rq0._auto_1):PI X tg (.Call (.Name "range" p) [a] [] pos) (bS0 ta):=by
 intro pins s σ H R I h
 refine Call_ (kD I hg hm boot_range (ge (dJ (ha pos pins s σ H _ I h) ?_) hs rfl));rintro us s1 ⟨vs,H1,I1,r1,q1⟩
 obtain ⟨j,e,q1,q2,q⟩:=q1
 subst e
 cases r1 with
 |cons r rr =>
  cases rr
  obtain ⟨t,rfl⟩:=r
  exact call_range_1 (aN3 I1 (by omega) (by omega) q1 q2 (by simpa using q))
def bP0 (wi:TI) (g:TG) (tb:TS):TS:=fun D σ H=>wi σ H fun J H1=>∃ W:Nat->Nat->St->Hp->Prop,(∃ m,W 0 m σ H1)/\∀ i m σ H,W i m σ H ->
 (J.stop i H/\D.nx σ H)\/(J.go i H/\∃ N:St->Hp->Prop,(∀ σ' H',N σ' H'->∃ m',m' < m/\W (i+1) m' σ' H')/\∀ x H',J.yld i H x H'->g x σ H' fun σ2 H2=>tb { D with nx:=N,ct:=N,bk:=D.nx } σ2 H2)
def iH (fp:List Addr) (h:Heap):List (Addr×Obj):=fp.filterMap fun b=>(h.get? b).map fun o=>(b,o)
theorem iB {fp:List Addr}{h:Heap}{b:Addr}{o:Obj}(hb:b∈fp) (e:h.get? b=some o):(b,o)∈iH fp h:=iy.mpr ⟨b,hb,by rw [e];rfl⟩
theorem sJ {fp:List Addr}{h:Heap}{p:Addr×Obj}(hp:p∈iH fp h):p.1∈fp/\h.get? p.1=some p.2:=by
 obtain ⟨b,hb,e⟩:=iy.mp hp
 cases q:h.get? b with
 |none=>rw [q] at e;cases e
 |some o =>
  rw [q] at e
  have e':(b,o)=p:=dk e
  subst e'
  exact ⟨hb,q⟩
theorem bC.pinned {pins:List (Addr×Obj)}{σ: St}{H:Hp}{s:Shared}{fp:List Addr}(I:bC X pins σ H s) (hf:∀ b∈fp,mH X pins H b) (ho:∀ b∈fp,∃ o,s.heap.get? b=some o/\∀ v,o.data≠ .cell v):bC X (pins++iH fp s.heap) σ H s :=
 I.pins_of fun p hp=>(du.mp hp).elim (fun z=>I.pin p (cw _ z)) fun z=>by
  obtain ⟨hb,e⟩:=sJ z
  obtain ⟨f0,f1,f2,_⟩:=hf p.1 hb
  obtain ⟨o,e',d⟩:=ho p.1 hb
  rw [e] at e';cases e'
  exact ⟨e,f0,f1,f2,d⟩
theorem bC.unpinned {pins pl:List (Addr×Obj)}{σ: St}{H:Hp}{s:Shared}(I:bC X (pins++pl) σ H s):bC X pins σ H s:=I.pins_of fun p hp=>I.pin p (cw _ (fg _ hp))
theorem aH6 {iter:Expr}{body:List Stmt}{wi:TI}{g:TG}{tb:TS}{pos:Pos}(hp:PassesOwn (model X.prog X.w) X.A X.env X.xe) (hc:X.calm=true) (hi:PI X tg iter wi) (hg:PG X tg g) (hb:oN X body tb)
  (hs:autoParam (∀ x,foldedSetIterable iter X.env x=pure x) Rq6._auto_1):PS X (.For tg iter body [] pos) (bP0 wi g tb):=by
 intro pins s σ H D I h
 refine wpAny_For (dJ (hi pins s σ H _ I h) fun v s1 h1=>dJ h1 fun itv s2 h2=>?_) hs
 obtain ⟨it,fp,tn,J,H2,e,I2,T,st2,f2,W,⟨m0,w0⟩,turn⟩:=h2
 subst e
 have stat:∀ {H':Hp},(∀ b∈fp,H' b=none)->∀ b∈fp,mH X pins H' b:=fun hn b hb=>⟨hn b hb,(f2 b hb).2⟩
 refine codeAny_forLoop_any (fun n s'=>∃ i σ' H',bC X pins σ' H' s'/\tn i s'.heap/\(∀ b∈fp,H' b=none)/\W i n σ' H') ?_ m0 ⟨0,σ,H2,I2,st2,fun b hb=>(f2 b hb).1,w0⟩
 rintro n s3 ⟨i,σ3,H3,I3,st3,fr3,w3⟩
 rcases turn i n σ3 H3 w3 with ⟨stop,qn⟩ | ⟨go,N,hN,step⟩
 ·refine iz hp (dJ (T.done X rfl rfl rfl hc i pins s3 σ3 H3 X.xe I3 (stat fr3) st3 stop) ?_);rintro r s4 ⟨hr,I4⟩
  subst hr
  exact lh ⟨σ3,H3,I4,qn⟩
 ·refine iz hp (dJ (T.item X rfl rfl rfl hc i pins s3 σ3 H3 X.xe I3 (stat fr3) st3 go) ?_);rintro r s4 ⟨u,hr,h4⟩
  subst hr
  refine iz hp (dJ h4 ?_);rintro _ s5 ⟨x,H5,I5,r5,y5,st5,fr5⟩
  have I5':=I5.pinned (stat fr5) (T.obj _ _ st5)
  refine iz hp (dJ (hg _ s5 σ3 H5 x u _ I5' r5 (step x H5 y5)) ?_);rintro _ s6 ⟨σ6,H6,I6,q6⟩
  refine iz hp (dJ (hb _ s6 σ6 H6 _ I6 q6) fun f s7 q7=>?_)
  have again:∀ {σ7:St}{H7:Hp},bC X (pins++iH fp s5.heap) σ7 H7 s7->N σ7 H7->∃ m,m < n/\∃ i σ' H',bC X pins σ' H' s7/\tn i s7.heap/\(∀ b∈fp,H' b=none)/\W i m σ' H':=fun {σ7 H7} I7 n7=>by
   obtain ⟨m',hm,w7⟩:=hN σ7 H7 n7
   refine ⟨m',hm,i+1,σ7,H7,I7.unpinned,T.keep _ _ _ st5 fun b hb o e=>(I7.pin (b,o) (cw _ (cw _ (iB hb e)))).1,fun b hb=>?_,w7⟩
   obtain ⟨o,e,d⟩:=T.obj _ _ st5 b hb
   exact (I7.pin (b,o) (cw _ (cw _ (iB hb e)))).2.1
  cases f with
  |next=>obtain ⟨σ7,H7,I7,n7⟩:=q7;exact again I7 n7
  |cont=>obtain ⟨σ7,H7,I7,n7⟩:=q7;exact again I7 n7
  |brk=>obtain ⟨σ7,H7,I7,q7⟩:=q7;exact ⟨σ7,H7,I7.unpinned,q7⟩
  |ret v=>obtain ⟨x7,σ7,H7,I7,r7,q7⟩:=q7;exact ⟨x7,σ7,H7,I7.unpinned,r7,q7⟩
end
theorem wT {K:PySem.W.Frag}{a:Addr}{xs:List V}{g:TG}{tb:TS}{D:fY}{σ: St}{H:Hp}(Pv:Nat->St->Hp->Prop) (h0:Pv 0 σ H) (hl:∀ i σ H,i<=xs.length->Pv i σ H->bI K H a xs)
  (hs:∀ i x σ H,xs[i]?=some x->Pv i σ H->g x σ H fun σ2 H2=>tb { D with nx:=Pv (i+1),ct:=Pv (i+1),bk:=D.nx } σ2 H2) (hd:∀ σ H,Pv xs.length σ H->D.nx σ H) :
  ∃ W:Nat->Nat->St->Hp->Prop,(∃ m,W 0 m σ H)/\∀ i m σ H,W i m σ H ->
   ((Itl K a).stop i H/\D.nx σ H)\/((Itl K a).go i H/\∃ N:St->Hp->Prop,(∀ σ' H',N σ' H'->∃ m',m' < m/\W (i+1) m' σ' H')/\∀ x H',(Itl K a).yld i H x H'->g x σ H' fun σ2 H2=>tb { D with nx:=N,ct:=N,bk:=D.nx } σ2 H2):=by
 refine ⟨fun i m σ H=>m=xs.length - i/\i<=xs.length/\Pv i σ H,⟨xs.length,by simp,av _,h0⟩,?_⟩
 rintro i m σ H ⟨rfl,hi,p⟩
 have q:=hl i σ H hi p
 by_cases hlt:i < xs.length
 ·refine .inr ⟨⟨xs,xs[i],q,by simp [hlt]⟩,Pv (i+1),fun σ' H' p'=>⟨xs.length - (i+1),fi hlt (ej i),rfl,hlt,p'⟩,fun x H' y=>?_⟩
  obtain ⟨e,y⟩:=y
  subst e
  exact hs i x σ _ (y xs q) p
 ·have e:i=xs.length:=by omega
  subst e
  exact .inl ⟨⟨xs,q,ai _⟩,hd σ H p⟩
theorem aR8 {K:PySem.W.Frag}{a:Addr}{xs:List V}{g:TG}{tb:TS}{D:fY}{σ: St}{H:Hp}(Pv:Nat->St->Hp->Prop) (h0:Pv 0 σ H) (hl:∀ i σ H,i<=xs.length->Pv i σ H->aQ K H a xs)
  (hs:∀ i x σ H,xs[i]?=some x->Pv i σ H->g x σ H fun σ2 H2=>tb { D with nx:=Pv (i+1),ct:=Pv (i+1),bk:=D.nx } σ2 H2) (hd:∀ σ H,Pv xs.length σ H->D.nx σ H) :
  ∃ W:Nat->Nat->St->Hp->Prop,(∃ m,W 0 m σ H)/\∀ i m σ H,W i m σ H ->
   ((Itt K a).stop i H/\D.nx σ H)\/((Itt K a).go i H/\∃ N:St->Hp->Prop,(∀ σ' H',N σ' H'->∃ m',m' < m/\W (i+1) m' σ' H')/\∀ x H',(Itt K a).yld i H x H'->g x σ H' fun σ2 H2=>tb { D with nx:=N,ct:=N,bk:=D.nx } σ2 H2):=by
 refine ⟨fun i m σ H=>m=xs.length - i/\i<=xs.length/\Pv i σ H,⟨xs.length,by simp,av _,h0⟩,?_⟩
 rintro i m σ H ⟨rfl,hi,p⟩
 have q:=hl i σ H hi p
 by_cases hlt:i < xs.length
 ·refine .inr ⟨⟨xs,xs[i],q,by simp [hlt]⟩,Pv (i+1),fun σ' H' p'=>⟨xs.length - (i+1),fi hlt (ej i),rfl,hlt,p'⟩,fun x H' y=>?_⟩
  obtain ⟨e,y⟩:=y
  subst e
  exact hs i x σ _ (y xs q) p
 ·have e:i=xs.length:=by omega
  subst e
  exact .inl ⟨⟨xs,q,ai _⟩,hd σ H p⟩
theorem tO {lo:Int}{n:Nat}{g:TG}{tb:TS}{D:fY}{σ: St}{H:Hp}(Pv:Nat->St->Hp->Prop) (h0:Pv 0 σ H)
  (hs:∀ i σ H,i < n->Pv i σ H->g (.int (lo+i)) σ H fun σ2 H2=>tb { D with nx:=Pv (i+1),ct:=Pv (i+1),bk:=D.nx } σ2 H2) (hd:∀ σ H,Pv n σ H->D.nx σ H) :
  ∃ W:Nat->Nat->St->Hp->Prop,(∃ m,W 0 m σ H)/\∀ i m σ H,W i m σ H ->
   ((Itr lo n).stop i H/\D.nx σ H)\/((Itr lo n).go i H/\∃ N:St->Hp->Prop,(∀ σ' H',N σ' H'->∃ m',m' < m/\W (i+1) m' σ' H')/\∀ x H',(Itr lo n).yld i H x H'->g x σ H' fun σ2 H2=>tb { D with nx:=N,ct:=N,bk:=D.nx } σ2 H2):=by
 refine ⟨fun i m σ H=>m=n - i/\i<=n/\Pv i σ H,⟨n,by simp,av _,h0⟩,?_⟩
 rintro i m σ H ⟨rfl,hi,p⟩
 by_cases hlt:i < n
 ·refine .inr ⟨hlt,Pv (i+1),fun σ' H' p'=>⟨n - (i+1),fi hlt (ej i),rfl,hlt,p'⟩,fun x H' y=>?_⟩
  obtain ⟨e,y⟩:=y
  subst e y
  exact hs i σ _ hlt p
 ·have e:i=n:=by omega
  subst e
  exact .inl ⟨ai _,hd σ H p⟩
abbrev R2:=V->V->Hp->VK->Prop
def jX (X:Cx) (f:Value->Value->Sem Value) (r:R2):Prop :=
 ∀ (pins:List (Addr×Obj)) (s:Shared) (σ: St) (H:Hp) (x y:V) (v u:Value) (Q:VK),bC X pins σ H s->bX x v->bX y u->r x y H Q ->
  wpAny (model X.prog X.w) X.A (f v u) (EP X pins σ Q) X.xe s
def UnR (X:Cx) (f:Value->Sem Value) (r:V->Hp->VK->Prop):Prop :=
 ∀ (pins:List (Addr×Obj)) (s:Shared) (σ: St) (H:Hp) (x:V) (v:Value) (Q:VK),bC X pins σ H s->bX x v->r x H Q ->
  wpAny (model X.prog X.w) X.A (f v) (EP X pins σ Q) X.xe s
def eM (X:Cx) (f:Value) (r:List V->Hp->VK->Prop):Prop :=
 ∀ (pins:List (Addr×Obj)) (s:Shared) (σ: St) (H:Hp) (xs:List V) (us:List Value) (Q:VK),bC X pins σ H s->bN xs us->r xs H Q ->
  wpAny (model X.prog X.w) X.A (call f us) (EP X pins σ Q) X.xe s
def bW9 (X:Cx) (r:V->Hp->(Bool->Hp->Prop)->Prop):Prop :=
 ∀ (pins:List (Addr×Obj)) (s:Shared) (σ: St) (H:Hp) (x:V) (v:Value) (Q:Bool->Hp->Prop),bC X pins σ H s->bX x v->r x H Q ->
  wpAny (model X.prog X.w) X.A (truthy v) (TP X pins σ Q) X.xe s
def tOp (r:R2) (ta tb:TE):TE:=fun σ H Q=>ta σ H fun x H1=>tb σ H1 fun y H2=>r x y H2 Q
def tUn (r:V->Hp->VK->Prop) (ta:TE):TE:=fun σ H Q=>ta σ H fun x H1=>r x H1 Q
def rI (C:Int->Int->Prop) (g:Int->Int->V):R2:=fun x y H Q=>∃ i j,x= .int i/\y= .int j/\C i j/\Q (g i j) H
def rI0 (g:Int->Int->V):R2:=fun x y H Q=>∃ i j,x= .int i/\y= .int j/\Q (g i j) H
def rU (g:Int->V):V->Hp->VK->Prop:=fun x H Q=>∃ i,x= .int i/\Q (g i) H
section
variable {X:Cx}{a b c:Expr}{ta tb tc:TE}{pos:Pos}
theorem aZ7 (ha:PE X a ta) (hb:PE X b tb) {pins:List (Addr×Obj)}{s:Shared}{σ: St}{H:Hp}{R:V->V->Hp->Prop}(I:bC X pins σ H s)
  (h:ta σ H fun x H1=>tb σ H1 fun y H2=>R x y H2) {Q:Value->Shared->Prop}{f:Value->Value->Sem Value}
  (hf:∀ v u s2 x y H2,bC X pins σ H2 s2->bX x v->bX y u->R x y H2->wpAny (model X.prog X.w) X.A (f v u) Q X.xe s2) :
  wpAny (model X.prog X.w) X.A (eval a X.env) (fun v s₁=>wpAny (model X.prog X.w) X.A (eval b X.env) (fun u s₂=>wpAny (model X.prog X.w) X.A (f v u) Q X.xe s₂) X.xe s₁) X.xe s:=by
 refine dJ (ha pins s σ H _ I h) ?_;rintro v s1 ⟨x,H1,I1,r1,q1⟩
 refine dJ (hb pins s1 σ H1 _ I1 q1) ?_;rintro u s2 ⟨y,H2,I2,r2,q2⟩
 exact hf v u s2 x y H2 I2 r1 r2 q2
theorem aM {op:Operator}{r:R2}(ho:jX X (binaryOp op) r) (ha:PE X a ta) (hb:PE X b tb):PE X (.BinOp a op b pos) (tOp r ta tb):=by
 intro pins s σ H Q I h
 exact wpAny_BinOp (aZ7 ha hb I h fun v u s2 x y H2 I2 rx ry q=>ho pins s2 σ H2 x y v u Q I2 rx ry q)
theorem aN8 {op:UnaryOp}{r:V->Hp->VK->Prop}(ho:UnR X (unaryOp op) r) (ha:PE X a ta):PE X (.UnaryOp op a pos) (tUn r ta):=by
 intro pins s σ H Q I h
 refine UnaryOp_ (dJ (ha pins s σ H _ I h) ?_);rintro v s1 ⟨x,H1,I1,r1,q1⟩;exact ho pins s1 σ H1 x v Q I1 r1 q1
theorem opI {f:Value->Value->Sem Value}{C:Int->Int->Prop}{g:Int->Int->Int}
  (rule:∀ (i j:Int) (t u:Tok) (s:Shared) (Q:Value->Shared->Prop) (E:Value->Shared->Prop),C i j->Q (.int (g i j) s.toks) { s with toks:=s.toks+1 }->wpAny (model X.prog X.w) X.A (f (.int i t) (.int j u)) Q E s) :
  jX X f (rI C fun i j=> .int (g i j)):=by
 intro pins s σ H x y v u Q I rx ry h
 obtain ⟨i,j,rfl,rfl,hc,q⟩:=h
 obtain ⟨t,rfl⟩:=rx
 obtain ⟨t',rfl⟩:=ry
 exact rule i j t t' s _ _ hc ⟨.int (g i j),H,I.tok _,⟨_,rfl⟩,q⟩
theorem bP3 {f:Value->Value->Sem Value}{g:Int->Int->Int}
  (rule:∀ (i j:Int) (t u:Tok) (s:Shared) (Q:Value->Shared->Prop) (E:Value->Shared->Prop),Q (.int (g i j) s.toks) { s with toks:=s.toks+1 }->wpAny (model X.prog X.w) X.A (f (.int i t) (.int j u)) Q E s) :
  jX X f (rI0 fun i j=> .int (g i j)):=by
 intro pins s σ H x y v u Q I rx ry h
 obtain ⟨i,j,rfl,rfl,q⟩:=h
 obtain ⟨t,rfl⟩:=rx
 obtain ⟨t',rfl⟩:=ry
 exact rule i j t t' s _ _ ⟨.int (g i j),H,I.tok _,⟨_,rfl⟩,q⟩
theorem aQ0 {f:Value->Value->Sem Value}{g:Int->Int->Bool}
  (rule:∀ (i j:Int) (t u:Tok) (s:Shared) (Q:Value->Shared->Prop) (E:Value->Shared->Prop),Q (.bool (g i j)) s->wpAny (model X.prog X.w) X.A (f (.int i t) (.int j u)) Q E s) :
  jX X f (rI0 fun i j=> .bl (g i j)):=by
 intro pins s σ H x y v u Q I rx ry h
 obtain ⟨i,j,rfl,rfl,q⟩:=h
 obtain ⟨t,rfl⟩:=rx
 obtain ⟨t',rfl⟩:=ry
 exact rule i j t t' s _ _ ⟨.bl (g i j),H,I,rfl,q⟩
def bU9 (i j:Int):Prop:=0<=j/\j<=1000000/\i.natAbs < 2 ^ 64
def aS0 (i j:Int):Prop:=(-(2 ^ 64) < i/\i < 2 ^ 64)\/(-(2 ^ 64) < j/\j < 2 ^ 64)
theorem aS0.ok {i j:Int}(h:aS0 i j):IntMulOk i j:=by
 rcases h with ⟨h1,h2⟩ | ⟨h1,h2⟩
 ·exact .of_left (intBits_le_64 h1 h2)
 ·exact .of_right (intBits_le_64 h1 h2)
theorem bT:jX X (binaryOp .Add) (rI0 fun i j=> .int (i+j)):=bP3 fun _ _ _ _ _ _ _ q=>add_int q
theorem dP:jX X (binaryOp .Sub) (rI0 fun i j=> .int (i - j)):=bP3 fun _ _ _ _ _ _ _ q=>sub_int q
theorem fP:jX X (binaryOp .Mult) (rI aS0 fun i j=> .int (i * j)):=opI fun _ _ _ _ _ _ _ hc q=>mul_int q hc.ok
theorem jN:jX X (binaryOp .Mod) (rI (fun _ j=>0 < j) fun i j=> .int (i % j)):=opI fun i j _ _ _ _ _ hc q=>by
 have h1:(0:Int) < j:=hc
 exact mod_int' (by omega) (by rw [Int.fmod_eq_emod_of_nonneg i (by omega)];exact q)
theorem bA1:jX X (binaryOp .Pow) (rI bU9 fun i j=> .int (i ^ j.toNat)):=opI fun _ _ _ _ _ _ _ hc q=>pow_int_small hc.1 hc.2.1 hc.2.2 q
theorem unI {f:Value->Sem Value}{g:Int->Int}
  (rule:∀ (i:Int) (t:Tok) (s:Shared) (Q:Value->Shared->Prop) (E:Value->Shared->Prop),Q (.int (g i) s.toks) { s with toks:=s.toks+1 }->wpAny (model X.prog X.w) X.A (f (.int i t)) Q E s) :
  UnR X f (rU fun i=> .int (g i)):=by
 intro pins s σ H x v Q I rx h
 obtain ⟨i,rfl,q⟩:=h
 obtain ⟨t,rfl⟩:=rx
 exact rule i t s _ _ ⟨.int (g i),H,I.tok _,⟨_,rfl⟩,q⟩
theorem xI:UnR X (unaryOp .USub) (rU fun i=> .int (-i)):=unI fun _ _ _ _ _ q=>neg_int q
end
def bL6:V->V->Bool
 |.non,.non=>true | .non,.int _=>true | .int _,.non=>true | .non,.bl _=>true | .bl _,.non=>true | .non,.str _=>true | .str _,.non=>true
 |.int _,.int _=>true | .bl _,.bl _=>true | .str _,.str _=>true | .byt _,.byt _=>true
 |.int _,.str _=>true | .str _,.int _=>true | .bl _,.str _=>true | .str _,.bl _=>true
 |_,_=>false
def rEq:R2:=fun x y H Q=>bL6 x y=true/\Q (.bl (decide (x=y))) H
def rNe:R2:=fun x y H Q=>bL6 x y=true/\Q (.bl (!decide (x=y))) H
theorem zF {i j:Int}:decide (V.int i=V.int j)=(i == j):=by
 rw [ja]
 simp
theorem aO8 {i j:Bool}:decide (V.bl i=V.bl j)=(i == j):=by
 rw [ja]
 simp
theorem zY {i j:Str}:decide (V.str i=V.str j)=(i == j):=by
 rw [ja]
 simp
theorem yW {i j:Array UInt8}:decide (V.byt i=V.byt j)=(i.toList == j.toList):=by
 rw [ja]
 cases i
 cases j
 simp
section
variable {X:Cx}{a b c:Expr}{ta tb tc:TE}{pos:Pos}
theorem cL {pins:List (Addr×Obj)}{σ: St}{H:Hp}{s:Shared}{Q:VK}{k k':Bool}(I:bC X pins σ H s) (q:Q (.bl k) H) (e:k=k'):EP X pins σ Q (.bool k') s:=by
 subst e
 exact ⟨.bl k,H,I,rfl,q⟩
theorem bP:jX X (compareOp .Eq) rEq:=by
 intro pins s σ H x y v u Q I rx ry h
 obtain ⟨hs,q⟩:=h
 cases x with
 |non =>
  cases rx
  cases y with
  |non=>cases ry;exact PySem.EqNone.eq_none_none (cL I q (by simp))
  |bl j=>cases ry;exact PySem.EqNone.eq_none_bool (cL I q (by simp))
  |int j=>obtain ⟨t',rfl⟩:=ry;exact PySem.EqNone.eq_none_int (cL I q (by simp))
  |str j=>obtain ⟨t',rfl⟩:=ry;exact PySem.EqNone.eq_none_str (cL I q (by simp))
  |_=>exact absurd (show false=true from hs) bi
 |bl i =>
  cases rx
  cases y with
  |non=>cases ry;exact PySem.EqNone.eq_bool_none (cL I q (by simp))
  |bl j=>cases ry;exact eq_bool (cL I q aO8)
  |str j=>obtain ⟨t',rfl⟩:=ry;exact PySem.EqMixed.eq_bool_str (cL I q (by simp))
  |_=>exact absurd (show false=true from hs) bi
 |int i =>
  obtain ⟨t,rfl⟩:=rx
  cases y with
  |non=>cases ry;exact PySem.EqNone.eq_int_none (cL I q (by simp))
  |int j=>obtain ⟨t',rfl⟩:=ry;exact eq_int (cL I q zF)
  |str j=>obtain ⟨t',rfl⟩:=ry;exact PySem.EqMixed.eq_int_str (cL I q (by simp))
  |_=>exact absurd (show false=true from hs) bi
 |str i =>
  obtain ⟨t,rfl⟩:=rx
  cases y with
  |non=>cases ry;exact PySem.EqNone.eq_str_none (cL I q (by simp))
  |bl j=>cases ry;exact PySem.EqMixed.eq_str_bool (cL I q (by simp))
  |int j=>obtain ⟨t',rfl⟩:=ry;exact PySem.EqMixed.eq_str_int (cL I q (by simp))
  |str j=>obtain ⟨t',rfl⟩:=ry;exact eq_str (cL I q zY)
  |_=>exact absurd (show false=true from hs) bi
 |byt i =>
  obtain ⟨t,rfl⟩:=rx
  cases y with
  |byt j=>obtain ⟨t',rfl⟩:=ry;exact PySem.W.eq_bytes (cL I q yW)
  |_=>exact absurd (show false=true from hs) bi
 |_=>cases y <;> exact absurd (show false=true from hs) bi
theorem aW4:jX X (compareOp .NotEq) rNe:=by
 intro pins s σ H x y v u Q I rx ry h
 obtain ⟨hs,q⟩:=h
 cases x with
 |non =>
  cases rx
  cases y with
  |non=>cases ry;exact PySem.EqNone.ne_none_none (cL I q (by simp))
  |bl j=>cases ry;exact PySem.EqNone.ne_none_bool (cL I q (by simp))
  |int j=>obtain ⟨t',rfl⟩:=ry;exact PySem.EqNone.ne_none_int (cL I q (by simp))
  |str j=>obtain ⟨t',rfl⟩:=ry;exact PySem.EqNone.ne_none_str (cL I q (by simp))
  |_=>exact absurd (show false=true from hs) bi
 |bl i =>
  cases rx
  cases y with
  |non=>cases ry;exact PySem.EqNone.ne_bool_none (cL I q (by simp))
  |bl j=>cases ry;exact ne_bool (cL I q (dg not aO8))
  |str j=>obtain ⟨t',rfl⟩:=ry;exact PySem.EqMixed.ne_bool_str (cL I q (by simp))
  |_=>exact absurd (show false=true from hs) bi
 |int i =>
  obtain ⟨t,rfl⟩:=rx
  cases y with
  |non=>cases ry;exact PySem.EqNone.ne_int_none (cL I q (by simp))
  |int j=>obtain ⟨t',rfl⟩:=ry;exact ne_int (cL I q (dg not zF))
  |str j=>obtain ⟨t',rfl⟩:=ry;exact PySem.EqMixed.ne_int_str (cL I q (by simp))
  |_=>exact absurd (show false=true from hs) bi
 |str i =>
  obtain ⟨t,rfl⟩:=rx
  cases y with
  |non=>cases ry;exact PySem.EqNone.ne_str_none (cL I q (by simp))
  |bl j=>cases ry;exact PySem.EqMixed.ne_str_bool (cL I q (by simp))
  |int j=>obtain ⟨t',rfl⟩:=ry;exact PySem.EqMixed.ne_str_int (cL I q (by simp))
  |str j=>obtain ⟨t',rfl⟩:=ry;exact ne_str (cL I q (dg not zY))
  |_=>exact absurd (show false=true from hs) bi
 |byt i =>
  obtain ⟨t,rfl⟩:=rx
  cases y with
  |byt j=>obtain ⟨t',rfl⟩:=ry;exact PySem.W.ne_bytes (cL I q (dg not yW))
  |_=>exact absurd (show false=true from hs) bi
 |_=>cases y <;> exact absurd (show false=true from hs) bi
theorem mU:jX X (compareOp .Lt) (rI0 fun i j=> .bl (decide (i < j))):=aQ0 fun _ _ _ _ _ _ _ q=>lt_int q
theorem tK:jX X (compareOp .LtE) (rI0 fun i j=> .bl (decide (i<=j))):=aQ0 fun _ _ _ _ _ _ _ q=>le_int q
theorem eW:jX X (compareOp .Gt) (rI0 fun i j=> .bl (decide (j < i))):=aQ0 fun _ _ _ _ _ _ _ q=>gt_int q
theorem aY1:jX X (compareOp .GtE) (rI0 fun i j=> .bl (decide (j<=i))):=aQ0 fun _ _ _ _ _ _ _ q=>ge_int q
theorem nU (b:Expr) {op:CmpOp}(h:autoParam (op≠ .In) Rq1._auto_1) (h2:autoParam (op≠ .NotIn) Rq1._auto_1):behindInMarks op b=false:=by
 have e1:(op == CmpOp.In)=false:=by cases op <;> first | rfl | exact absurd rfl h
 have e2:(op == CmpOp.NotIn)=false:=by cases op <;> first | rfl | exact absurd rfl h2
 cases b <;> simp [behindInMarks,e1,e2]
theorem aV1 {op:CmpOp}{r:R2}(ho:jX X (compareOp op) r) (ha:PE X a ta) (hb:PE X b tb) (hm:behindInMarks op b=false):PE X (.Compare a [op] [b] pos) (tOp r ta tb):=by
 intro pins s σ H Q I h
 exact wpAny_Compare1 (aZ7 ha hb I h fun v u s2 x y H2 I2 rx ry q=>ho pins s2 σ H2 x y v u Q I2 rx ry q) hm
def aG8 (t:TE):TT:=fun σ H Q=>t σ H fun x H'=>∃ k,x= .bl k/\Q k H'
theorem mV {op:CmpOp}{r:R2}(ho:jX X (compareOp op) r) (ha:PE X a ta) (hb:PE X b tb) (hm:behindInMarks op b=false):PT X (.Compare a [op] [b] pos) (aG8 (tOp r ta tb)):=by
 intro pins s σ H Q I h
 refine um (dJ (ha pins s σ H _ I h) fun v s1 ⟨x,H1,I1,r1,q1⟩=>dJ (hb pins s1 σ H1 _ I1 q1) fun u s2 ⟨y,H2,I2,r2,q2⟩ =>
  dJ (ho pins s2 σ H2 x y v u _ I2 r1 r2 q2) fun c s3 ⟨z,H3,I3,r3,k,e,q3⟩=>?_) hm
 subst e
 cases r3
 exact dy ⟨H3,I3,q3⟩
def aL2 (r r':R2) (ta tb tc:TE):TE:=fun σ H Q=>ta σ H fun x H1=>tb σ H1 fun y H2=>r x y H2 fun z H3=>∃ k,z= .bl k /\
 (if k=true then tc σ H3 fun w' H4=>r' y w' H4 Q else Q (.bl false) H3)
theorem aJ2 {op op':CmpOp}{r r':R2}(ho:jX X (compareOp op) r) (ho':jX X (compareOp op') r') (ha:PE X a ta) (hb:PE X b tb) (hc:PE X c tc)
  (hm:autoParam (lastMarks [op,op'] [b,c]=false) Rq11._auto_1):PE X (.Compare a [op,op'] [b,c] pos) (aL2 r r' ta tb tc):=by
 intro pins s σ H Q I h
 refine Compare_chain (dJ (ha pins s σ H _ I h) fun v s1 ⟨x,H1,I1,r1,q1⟩=>chain_link (dJ (hb pins s1 σ H1 _ I1 q1) fun u s2 ⟨y,H2,I2,r2,q2⟩ =>
  dJ (ho pins s2 σ H2 x y v u _ I2 r1 r2 q2) fun d s3 ⟨z,H3,I3,r3,k,e,q3⟩=>?_)) hm
 subst e
 cases r3
 refine dy ?_
 cases k with
 |false=>exact ite_ff ⟨.bl false,H3,I3,rfl,q3⟩
 |true=>refine ite_tt (chain_last (dJ (hc pins s3 σ H3 _ I3 q3) ?_));rintro w' s4 ⟨z',H4,I4,r4,q4⟩;exact ho' pins s4 σ H4 y z' u w' Q I4 r2 r4 q4
theorem aO6 {op op':CmpOp}{r r':R2}(ho:jX X (compareOp op) r) (ho':jX X (compareOp op') r') (ha:PE X a ta) (hb:PE X b tb) (hc:PE X c tc)
  (hm:autoParam (lastMarks [op,op'] [b,c]=false) Rq11._auto_1):PT X (.Compare a [op,op'] [b,c] pos) (aG8 (aL2 r r' ta tb tc)):=by
 intro pins s σ H Q I h
 refine isTrue_chain (dJ (ha pins s σ H _ I h) fun v s1 ⟨x,H1,I1,r1,q1⟩=>test_link (dJ (hb pins s1 σ H1 _ I1 q1) fun u s2 ⟨y,H2,I2,r2,q2⟩ =>
  dJ (ho pins s2 σ H2 x y v u _ I2 r1 r2 q2) fun d s3 ⟨z,H3,I3,r3,k,e,q3⟩=>?_)) hm
 subst e
 cases r3
 refine dy ?_
 cases k with
 |false =>
  obtain ⟨k',e',q'⟩:=q3
  cases e'
  exact ite_ff ⟨H3,I3,q'⟩
 |true =>
  refine ite_tt (test_last (dJ (hc pins s3 σ H3 _ I3 q3) ?_));rintro w' s4 ⟨z',H4,I4,r4,q4⟩;refine dJ (ho' pins s4 σ H4 y z' u w' _ I4 r2 r4 q4) ?_;rintro d' s5 ⟨z2,H5,I5,r5,k2,e2,q5⟩
  subst e2
  cases r5
  exact dy ⟨H5,I5,q5⟩
def bR2 (K:PySem.W.Frag) (x:V) (H:Hp) (k:Bool):Prop :=
 match x with
 |.non=>k=false
 |.bl b=>k=b
 |.int i=>k=(i != 0)
 |.str y=>y.length<=sizeLine/\k=((y.length:Int) != 0)
 |.byt y=>y.size<=sizeLine/\k=((y.size:Int) != 0)
 |.ref p=>(∃ xs,bI K H p xs/\k= !xs.isEmpty)\/(∃ xs,aQ K H p xs/\k= !xs.isEmpty)\/∃ kvs,H p=some (.dK kvs)/\k= !kvs.isEmpty
 |_=>False
theorem xM {κ: Type}{kvs:List (κ×V)}{vs:List (κ×Value)}(r:KV kvs vs):(!vs.isEmpty)= !kvs.isEmpty:=by
 cases r <;> rfl
theorem qS {xs:List V}{its:List Value}(r:bN xs its):(!its.toArray.isEmpty)= !xs.isEmpty:=by
 cases r <;> simp
theorem kJ:(sizeLine:Nat) < 2 ^ 63:=by rw [jf];decide
theorem bF0:bW9 X (fun x H Q=>∃ k,bR2 X.K x H k/\Q k H):=by
 intro pins s σ H x v Q I rx h
 obtain ⟨k,e,q⟩:=h
 have hl:=kJ
 have hs:sizeLine=16777216:=jf
 cases x with
 |non =>
  cases rx
  have e':k=false:=e
  subst e'
  exact truthy_none ⟨H,I,q⟩
 |bl b =>
  cases rx
  have e':k=b:=e
  subst e'
  exact dy ⟨H,I,q⟩
 |int i =>
  obtain ⟨t,rfl⟩:=rx
  have e':k=(i != 0):=e
  subst e'
  exact PySem.P.truthy_int ⟨H,I,q⟩
 |str y =>
  obtain ⟨t,rfl⟩:=rx
  obtain ⟨hy,e'⟩:y.length<=sizeLine/\k=((y.length:Int) != 0):=e
  subst e'
  exact PySem.P.truthy_str (by omega) ⟨H,I.tok _,q⟩
 |byt y =>
  obtain ⟨t,rfl⟩:=rx
  obtain ⟨hy,e'⟩:y.size<=sizeLine/\k=((y.size:Int) != 0):=e
  subst e'
  exact PySem.W.truthy_bytes (by omega) ⟨H,I.tok _,q⟩
 |ref p =>
  cases rx
  have e':(∃ xs,bI X.K H p xs/\k= !xs.isEmpty)\/(∃ xs,aQ X.K H p xs/\k= !xs.isEmpty)\/∃ kvs,H p=some (.dK kvs)/\k= !kvs.isEmpty:=e
  rcases e' with ⟨xs,hx,e'⟩ | ⟨xs,hx,e'⟩ | ⟨kvs,hx,e'⟩
  ·subst e'
   obtain ⟨its,r,pl,hz⟩:=I.list hx
   have hlen:=r.length
   exact wpAny_truthy_list pl.isList (by simp only [List.size_toArray];omega) ⟨H,I.tok _,by rw [qS r];exact q⟩
  ·subst e'
   obtain ⟨its,r,pl,hz⟩:=I.tuple hx
   have hlen:=r.length
   exact truthy_tuple pl (by simp only [List.size_toArray];omega) ⟨H,I.tok _,by rw [qS r];exact q⟩
  ·subst e'
   obtain ⟨hz,hS,vs,r,m⟩:kvs.length<=sizeLine/\(p == sysModules)=false/\∃ vs,KV kvs vs/\s.heap.DictOf (cG X.prog X.w) p vs:=I.hok p _ hx
   have hlen:kvs.length=vs.length:=jl r
   exact wpAny_truthy_dict hS m (by omega) ⟨H,I.tok _,by rw [xM r];exact q⟩
 |_=>exact (show False from e).elim
theorem pM (ha:PE X a ta) (he:∀ whole,isTrue a X.env whole=(do let v <- whole;standAt a.pos;holding [v] (truthy v))) :
  PT X a (fun σ H Q=>ta σ H fun x H'=>∃ k,bR2 X.K x H' k/\Q k H'):=by
 intro pins s σ H Q I h
 refine isTrue_plain (dJ (ha pins s σ H _ I h) ?_) (he _);rintro v s1 ⟨x,H1,I1,r1,q1⟩;exact bF0 pins s1 σ H1 x v Q I1 r1 q1
theorem jM:jX X (binaryOp .Add) (fun x y H Q=>∃ i j,x= .str i/\y= .str j/\i.length+j.length<=sizeLine/\Q (.str (i++j)) H):=by
 intro pins s σ H x y v u Q I rx ry h
 obtain ⟨i,j,rfl,rfl,hz,q⟩:=h
 obtain ⟨t,rfl⟩:=rx
 obtain ⟨t',rfl⟩:=ry
 exact add_str (fun t' tk=>⟨.str (i++j),H,I.tok _,⟨_,rfl⟩,q⟩) hz
theorem iN {x:V}{us:List Value}(r:bN [x] us):∃ u,us=[u]/\bX x u:=by
 cases r with
 |cons r1 r2=>cases r2;exact ⟨_,rfl,r1⟩
theorem wY {x y:V}{us:List Value}(r:bN [x,y] us):∃ u w',us=[u,w']/\bX x u/\bX y w':=by
 cases r with
 |cons r1 r2 =>
  cases r2 with
  |cons r3 r4=>cases r4;exact ⟨_,_,rfl,r1,r3⟩
theorem sR (hc:X.calm=true):eM X (.builtin "max") (fun xs H Q=>∃ i j,xs=[.int i,.int j]/\Q (.int (if j > i then j else i)) H):=by
 intro pins s σ H xs us Q I r h
 obtain ⟨i,j,rfl,q⟩:=h
 obtain ⟨u,w',rfl,⟨t,rfl⟩,⟨t',rfl⟩⟩:=wY r
 refine max_two_ints (I.ok.hd hc) fun h' tk k=>⟨_,H,I.kept k,?_,q⟩
 by_cases hj:j > i
 ·rw [bc hj,bc hj];exact ⟨_,rfl⟩
 ·rw [ar hj,ar hj];exact ⟨_,rfl⟩
theorem rV (hc:X.calm=true):eM X (.builtin "min") (fun xs H Q=>∃ i j,xs=[.int i,.int j]/\Q (.int (if j < i then j else i)) H):=by
 intro pins s σ H xs us Q I r h
 obtain ⟨i,j,rfl,q⟩:=h
 obtain ⟨u,w',rfl,⟨t,rfl⟩,⟨t',rfl⟩⟩:=wY r
 refine min_two_ints (I.ok.hd hc) fun h' tk k=>⟨_,H,I.kept k,?_,q⟩
 by_cases hj:j < i
 ·rw [bc hj,bc hj];exact ⟨_,rfl⟩
 ·rw [ar hj,ar hj];exact ⟨_,rfl⟩
theorem kY:eM X (.type "int") (fun xs H Q=>(∃ i,xs=[.int i]/\Q (.int i) H)\/∃ k,xs=[.bl k]/\Q (.int (if k then 1 else 0)) H):=by
 intro pins s σ H xs us Q I r h
 rcases h with ⟨i,rfl,q⟩ | ⟨k,rfl,q⟩
 ·obtain ⟨u,rfl,t,rfl⟩:=iN r
  exact call_int_int ⟨.int i,H,I,⟨_,rfl⟩,q⟩
 ·obtain ⟨u,rfl,r1⟩:=iN r
  cases r1
  exact call_int_bool ⟨.int (if k then 1 else 0),H,I.tok _,⟨_,rfl⟩,q⟩
end
structure bH3 (h:Heap) (x dx C:Addr) (mA:Str->Option Value):Prop where
 obj:h.get? x=some (PySem.W.instObj C dx)
 ns:h.Ns1 dx mA
 ne:dx≠x
theorem lH {h:Heap}{dx:Addr}{mA:Str->Option Value}(n:h.Ns1 dx mA):∃ od,h.get? dx=some od/\∀ name,PySem.W.lookIn name od=some (mA name):=by
 obtain ⟨o,es,ep,ho,hd,hk,_,hm⟩:=n
 refine ⟨o,ho,fun name=>?_⟩
 have e:=hm name
 unfold nsFind findBy at e
 rw [<- wk] at e
 unfold PySem.W.lookIn
 rw [hd]
 dsimp only
 split
 ·rename_i y q
  rw [q] at e
  exact dg some e
 ·rename_i q
  rw [q] at e
  have a:es.toList.any (·.refKey)=false:=by
   rw [List.any_eq_false]
   intro y hy
   obtain ⟨z,t,hkey⟩:=hk y (Array.mem_toList_iff.mp hy)
   simp [DictEntry.refKey,hkey]
  have a':¬ es.toList.any (·.refKey)=true:=by rw [a];exact bi
  rw [ar a']
  exact dg some e
theorem bH3.look {h:Heap}{x dx C:Addr}{mA:Str->Option Value}(I:bH3 h x dx C mA):∃ od,PySem.W.InstAt h x (PySem.W.instObj C dx) C (some od)/\∀ name,PySem.W.lookIn name od=some (mA name) :=by
 obtain ⟨od,ho,hl⟩:=lH I.ns
 exact ⟨od,⟨I.obj,rfl,rfl,ho⟩,hl⟩
section
variable {prog:Program}{w:World}{A:Around}{E:Value->Shared->Prop}{s:Shared}{K:PySem.W.Frag}{x dx C f:Addr}{mA:Str->Option Value}{name:Str}{v:Value}
end
def oQ (f:Str) (v:V):List (Str×V)->List (Str×V)
 |[]=>[(f,v)]
 |(g,x) :: r=>if g=f then (g,v) :: r else (g,x) :: oQ f v r
theorem oG (f g:Str) (v:V):∀ fs:List (Str×V),(oQ f v fs).lookup g=if g=f then some v else fs.lookup g
 |[]=>by
  show List.lookup g [(f,v)]=_
  by_cases h:g=f
  ·have hb:(g == f)=true:=re.mpr h
   simp only [List.lookup,hb,if_pos h]
  ·have hb:(g == f)=false:=ie.mpr h
   simp only [List.lookup,hb,if_neg h]
 |(k,x) :: r=>by
  have ih:=oG f g v r
  rw [show oQ f v ((k,x) :: r)=(if k=f then (k,v) :: r else (k,x) :: oQ f v r) from rfl]
  by_cases hk:k=f
  ·rw [bc hk]
   by_cases h:g=k
   ·have hb:(g == k)=true:=re.mpr h
    simp only [List.lookup,hb,if_pos (h.trans hk)]
   ·have hb:(g == k)=false:=ie.mpr h
    simp only [List.lookup,hb,if_neg (fun e:g=f=>h (e.trans hk.symm))]
  ·rw [ar hk]
   by_cases h:g=k
   ·have hb:(g == k)=true:=re.mpr h
    simp only [List.lookup,hb,if_neg (fun e:g=f=>hk (h.symm.trans e))]
   ·have hb:(g == k)=false:=ie.mpr h
    simp only [List.lookup,hb]
    exact ih
theorem nR (f:Str) (v:V):∀ fs:List (Str×V),f∈(oQ f v fs).map (·.1)/\∀ g,g∈fs.map (·.1)->g∈(oQ f v fs).map (·.1)
 |[]=>⟨by simp [oQ],fun g h=>by simp at h⟩
 |(k,x) :: r=>by
  obtain ⟨i1,i2⟩:=nR f v r
  rw [show oQ f v ((k,x) :: r)=(if k=f then (k,v) :: r else (k,x) :: oQ f v r) from rfl]
  by_cases hk:k=f
  ·rw [bc hk]
   subst hk
   exact ⟨by simp,fun g h=>by simpa using h⟩
  ·rw [ar hk]
   refine ⟨?_,fun g h=>?_⟩
   ·rw [gv]
    exact ay _ i1
   ·rw [gv] at h ⊢
    rcases cq.mp h with e | e
    ·exact cq.mpr (.inl e)
    ·exact ay _ (i2 g e)
theorem kW.some_of {v:V}{o:Option Value}(r:kW (some v) o):∃ u,o=some u/\bX v u:=by
 cases o with
 |none=>exact (show False from r).elim
 |some u=>exact ⟨u,rfl,r⟩
theorem aC9 {v:V}{u:Value}(r:bX v u):PySem.W.handedIn u=true:=by
 cases v with
 |non=>cases (show u=Value.none from r);rfl
 |bl b=>cases (show u=Value.bool b from r);rfl
 |int i=>obtain ⟨t,e⟩:=(show ∃ t,u=Value.int i t from r);cases e;rfl
 |str x=>obtain ⟨t,e⟩:=(show ∃ t,u=Value.str x t from r);cases e;rfl
 |byt b=>obtain ⟨t,e⟩:=(show ∃ t,u=Value.bytes b t from r);cases e;rfl
 |flt b=>obtain ⟨t,e⟩:=(show ∃ t,u=Value.float b t from r);cases e;rfl
 |ref a=>cases (show u=Value.ref a from r);rfl
 |ty n=>cases (show u=Value.type n from r);rfl
section
variable {P:Program}{w:World}{H H':Hp}{h h':Heap}{a C dx:Addr}{fs fs':List (Str×V)}
theorem aU2 (hok:jA P w H h) (e:H a=some (.ins C dx fs)):∃ mA,bH3 h a dx C mA/\(∀ f,kW (fs.lookup f) (mA f))/\PySem.Within mA (fs.map (·.1))/\fs.length<=1000/\H dx=some (.own a):=by
 obtain ⟨d,z,ne,ob,mA,n,r,q⟩:=(show cK P w H h a (.ins C dx fs) from hok a _ e)
 exact ⟨mA,⟨ob,n,ne⟩,r,q,z,d⟩
end
structure Cls (K:PySem.W.Frag) (C:Addr):Prop where
 pg:PySem.W.plainGet K C Str.empty=true
 hd:PySem.W.hasDictIn K C=true
 po:PySem.W.plainOver K C=true
 sa:PySem.W.findIn K (.ref C) "__setattr__"=some (some (.builtin "object.__setattr__"))
theorem Cls.get {K:PySem.W.Frag}{C:Addr}(c:Cls K C) (f:Str):PySem.W.plainGet K C f=true:=c.pg
def mB (K:PySem.W.Frag) (C:Addr) (f:Str):Prop:=PySem.W.findIn K (.ref C) f=some none
section
variable {X:Cx}{pins:List (Addr×Obj)}{σ: St}{H:Hp}{s:Shared}{a C dx:Addr}{fs:List (Str×V)}{f:Str}{v:V}{A:Around}{E:Value->Shared->Prop}
theorem aR2 {prog:Program}{w:World}{env:Env}{e:Expr}{f:Str}{pos:Pos}{s:Shared}{Q:Value->Shared->Prop}(hb:attributeBase e f env (eval e env)=eval e env)
  (h:wpAny (model prog w) A (eval e env) (fun o s₁=>wpAny (model prog w) A (getAttr o f true) Q E s₁) E s):wpAny (model prog w) A (eval (.Attribute e f pos) env) Q E s :=
 Attribute_any_ h (by rw [arm_eval_Attribute,hb])
end
section
variable {X:Cx}{o e value:Expr}{f:Str}{pos pos' tpos:Pos}{ta tv:TE}
end
section
variable {X:Cx}{pins:List (Addr×Obj)}{σ: St}{H:Hp}{s:Shared}{A:Around}{E:Value->Shared->Prop}{Q:Value->Shared->Prop}{c:Value}{b:Bool}
inductive mO (K:PySem.W.Frag) (H:Hp):V->Value->Prop where
 |non:mO K H .non (.type "NoneType")
 |bl (x:Bool):mO K H (.bl x) (.type "bool")
 |int (i:Int):mO K H (.int i) (.type "int")
 |str (x:Str):mO K H (.str x) (.type "str")
 |flt (x:UInt64):mO K H (.flt x) (.type "float")
 |lst {a:Addr}{xs:List V}(e:H a=some (.lst xs)):mO K H (.ref a) (.type "list")
 |frz {a:Addr}{o:Obj}{xs:List V}(e:H a=some (.frz o (.lst xs))):mO K H (.ref a) (.type "list")
 |tup {a:Addr}{xs:List V}(e:H a=some (.tup xs)):mO K H (.ref a) (.type "tuple")
 |dK {a:Addr}{kvs:List (Key×V)}(e:H a=some (.dK kvs)):mO K H (.ref a) (.type "dict")
 |dT {a:Addr}{kvs:List (List Key×V)}(e:H a=some (.dT kvs)):mO K H (.ref a) (.type "dict")
 |ins {a C dx:Addr}{fs:List (Str×V)}(e:H a=some (.ins C dx fs)) (cl:Cls K C) (ha:PySem.W.findIn K (.ref C) "__class__"=some (some (.builtin "object.__class__")))
   (hn:PySem.W.specialIn K (.builtin "object.__class__") "__get__"=some (some (.builtin "getset_descriptor.__get__"))) (htk:PySem.W.takesIn K (.builtin "object.__class__")=some true)
   (hm:PySem.W.mroIn K C (.type "object")=some true):mO K H (.ref a) (.ref C)
theorem aC7 {x:V}{u t:Value}(I:bC X pins σ H s) (rx:bX x u) (ty:mO X.K H x t) (e:PySem.W.kitOne X.K t c=some b) (h:∀ tk,Q (.bool b) { s with toks:=tk }) :
  wpAny (model X.prog X.w) A (call (.builtin "isinstance") [u,c]) Q E s:=by
 cases ty with
 |non=>cases (show u=Value.none from rx);exact eh PySem.W.kitx_none I.kIn gi e (fun z=>nomatch z) h
 |bl y=>cases (show u=Value.bool y from rx);exact eh PySem.W.kitx_bool I.kIn gi e (fun z=>nomatch z) h
 |int i=>obtain ⟨t,q⟩:=(show ∃ t,u=Value.int i t from rx);cases q;exact eh PySem.W.kitx_int I.kIn gi e (fun z=>nomatch z) h
 |str y=>obtain ⟨t,q⟩:=(show ∃ t,u=Value.str y t from rx);cases q;exact eh PySem.W.kitx_str I.kIn gi e (fun z=>nomatch z) h
 |flt y=>obtain ⟨t,q⟩:=(show ∃ t,u=Value.float y t from rx);cases q;exact eh PySem.W.kitx_float I.kIn gi e (fun z=>nomatch z) h
 |@lst a xs ea =>
  cases (show u=Value.ref a from rx)
  obtain ⟨_,_,n,_,h1⟩:=(show cK X.prog X.w H s.heap a (.lst xs) from I.hok a _ ea)
  exact eh xh I.kIn ⟨_,h1,rfl⟩ e (fun z=>nomatch z) h
 |@frz a ob xs ea =>
  cases (show u=Value.ref a from rx)
  obtain ⟨_,_,_,n,_,h1⟩:=(show cK X.prog X.w H s.heap a (.frz ob (.lst xs)) from I.hok a _ ea)
  exact eh xh I.kIn ⟨_,h1,rfl⟩ e (fun z=>nomatch z) h
 |@tup a xs ea =>
  cases (show u=Value.ref a from rx)
  obtain ⟨_,_,_,p⟩:=(show cK X.prog X.w H s.heap a (.tup xs) from I.hok a _ ea)
  obtain ⟨o,h1,h2,_⟩:=p
  exact eh PySem.W.kitx_tuple I.kIn ⟨o,h1,h2⟩ e (fun z=>nomatch z) h
 |@dK a kvs ea =>
  cases (show u=Value.ref a from rx)
  obtain ⟨_,_,vs,_,p⟩:=(show cK X.prog X.w H s.heap a (.dK kvs) from I.hok a _ ea)
  obtain ⟨o,es,ep,h1,h2,_⟩:=p
  exact eh xi I.kIn ⟨o,h1,h2.1⟩ e (fun z=>nomatch z) h
 |@dT a kvs ea =>
  cases (show u=Value.ref a from rx)
  obtain ⟨_,_,xs,_,o,es,ep,h1,h2,_⟩:=(show cK X.prog X.w H s.heap a (.dT kvs) from I.hok a _ ea)
  exact eh xi I.kIn ⟨o,h1,h2.1⟩ e (fun z=>nomatch z) h
 |@ins a C dx fs ea cl ha hn htk hm =>
  cases (show u=Value.ref a from rx)
  obtain ⟨mA,O,_⟩:=aU2 I.hok ea
  obtain ⟨od,J,_⟩:=O.look
  exact eh (PySem.W.kitx_own (cl.get _) cl.hd ha hn htk hm) I.kIn J e (fun z=>nomatch z) h
end
structure eE (k:Nat) (A:Around):Prop where
 hd:A.handled=none
 dp:A.depth+3 * k+5 < recursionLimit
 un:A.units+16 * k+200 < cLine
 gd:A.guards=some []
theorem eE.mono {j k:Nat}{A:Around}(r:eE k A) (h:j<=k):eE j A:=⟨r.hd,by have:=r.dp;omega,by have:=r.un;omega,r.gd⟩
theorem eE.deeper {k:Nat}{A:Around}(r:eE (k+1) A) (env:Env):eE k (A.deeper env) :=
 ⟨r.hd,by have:=r.dp;show A.depth+1+3 * k+5 < _;omega,by have:=r.un;show A.units+3+16 * k+200 < _;omega,r.gd⟩
theorem eE.in1 {k:Nat}{A:Around}(r:eE (k+1) A):eE k A.in1 :=
 ⟨r.hd,by have:=r.dp;show A.depth+3 * k+5 < _;omega,by have:=r.un;show A.units+1+16 * k+200 < _;omega,r.gd⟩
theorem xG {A:Around}{C:Addr}{us:List Value}{kw:List (Str×Value)}:(A.under (.builtin "type.__call__" ⟨.ref C :: us,kw⟩)).depth=A.depth+1:=by
 first | rfl | simp [Around.under,Code.weight,Code.isCreation,Code.isGuard,Code.isCaller,Code.frames,Code.isFrame,guardIds]
theorem xQ {A:Around}{C:Addr}{us:List Value}{kw:List (Str×Value)}:(A.under (.builtin "type.__call__" ⟨.ref C :: us,kw⟩)).units=A.units+1:=by
 first | rfl | simp [Around.under,Code.cUnits,Code.frames,Code.isFrame]
theorem vD {A:Around}{C:Addr}{us:List Value}{kw:List (Str×Value)}:(A.under (.builtin "type.__call__" ⟨.ref C :: us,kw⟩)).guards=A.guards:=by
 have e:(Code.builtin "type.__call__" ⟨.ref C :: us,kw⟩).isGuard=false:=by
  show guardIds.contains "type.__call__"=false
  decide +kernel
 cases h:A.guards <;> simp [Around.under,Code.guards,pushGuards,e,h]
theorem eE.make {k:Nat}{A:Around}(r:eE (k+1) A) (C:Addr) (us:List Value) (kw:List (Str×Value)):eE k (A.under (.builtin "type.__call__" ⟨.ref C :: us,kw⟩)) :=
 ⟨r.hd,by have:=r.dp;rw [xG];omega,by have:=r.un;rw [xQ];omega,vD.trans r.gd⟩
theorem eE.depth {k:Nat}{A:Around}(r:eE k A):A.depth < recursionLimit:=by have:=r.dp;omega
theorem eE.units {k:Nat}{A:Around}(r:eE k A):A.units+64 < cLine:=by have:=r.un;omega
def tNil:TA:=fun _ H Q=>Q [] H
def aY2 (ta:TE) (tr:TA):TA:=fun σ H Q=>ta σ H fun x H1=>tr σ H1 fun xs H2=>Q (x :: xs) H2
section
variable {X:Cx}{e:Expr}{es:List Expr}{te:TE}{t:TA}{pos:Pos}
theorem cF:PA X [] tNil:=fun _ _ _ _ H Q I h=>js ⟨[],H,I,.nil,h⟩
theorem aB (ha:PE X e te) (hr:PA X es t) (hs:autoParam (starEach (e :: es) X.env=(false,eval e X.env) :: starEach es X.env) Rq0._auto_1):PA X (e :: es) (aY2 te t):=by
 intro pos pins s σ H Q I h
 rw [hs]
 show wpAny _ _ (spliced ((false,eval e X.env) :: backTo pos (starEach es X.env))) _ _ s
 refine jn (dJ (ha pins s σ H _ I h) ?_);rintro u s1 ⟨x,H1,I1,r1,q1⟩
 refine dJ (hr pos pins s1 σ H1 _ I1 q1) ?_;rintro us s2 ⟨xs,H2,I2,r2,q2⟩;exact ⟨x :: xs,H2,I2,.cons r1 r2,q2⟩
def bZ0 (t:TA):TE:=fun σ H Q=>t σ H fun xs H1=>xs.length<=sizeLine/\∀ p,H1 p=none->Q (.ref p) (aJ H1 p (.tup xs))
def bU7 (t:TA):TE:=fun σ H Q=>t σ H fun xs H1=>xs.length<=sizeLine/\∀ p,H1 p=none->Q (.ref p) (aJ H1 p (.lst xs))
theorem aL {x1} (h:PA X es t):PE X (.Tuple es x1 pos) (bZ0 t):=by
 intro pins s σ H Q I hq
 refine wpAny_Tuple_spliced (dJ (h pos pins s σ H _ I hq) ?_);rintro us s1 ⟨xs,H1,I1,r,z,q⟩;refine ⟨by rw [<- r.length];exact z,?_⟩
 have hf:H1 s1.heap.objs.size=none:=I1.hok.fresh (ai _)
 refine ⟨.ref s1.heap.objs.size,aJ H1 s1.heap.objs.size (.tup xs),I1.laid (t':=s1.toks) (fun b u e=>ah _ e) (ai _) ?_,rfl,q _ hf⟩
 exact ⟨z,us,r,⟨_,br _ rfl,rfl,_,rfl,rfl⟩⟩
theorem bS (h:PA X es t):PE X (.List es pos) (bU7 t):=by
 intro pins s σ H Q I hq
 refine wpAny_List_spliced (dJ (h pos pins s σ H _ I hq) ?_);rintro us s1 ⟨xs,H1,I1,r,z,q⟩;refine ⟨by rw [<- r.length];exact z,?_⟩
 have hf:H1 s1.heap.objs.size=none:=I1.hok.fresh (ai _)
 refine ⟨.ref s1.heap.objs.size,aJ H1 s1.heap.objs.size (.lst xs),I1.laid (t':=s1.toks) (fun b u e=>ah _ e) (ai _) ?_,rfl,q _ hf⟩
 exact ⟨z,us,0,r,br _ rfl⟩
end
abbrev Sp:=List V->Hp->VK->XK->Prop
abbrev CXT:=List Env->Hp->Shared->XK->Value->Shared->Prop
structure yQ (P:Program) (w:World) (K:PySem.W.Frag) (mg:Str->Option Value) (base:Heap) (A:Around) (outer:List Env) (s:Shared) (H:Hp):Prop where
 frames:A.frames=some outer
 mod:Mod K mg base
 bs:∀ b o,base.get? b=some o->s.heap.get? b=some o/\H b=none
 bsz:base.objs.size<=s.heap.objs.size
 funs:s.heap.FunFrames base outer
 frf:∀ b∈jR outer,H b=none
 hok:jA P w H s.heap
 bare:AllBare s.gens
def CE (outer:List Env) (P:Program) (w:World) (H:Hp) (s:Shared) (Q:VK) (u:Value) (s':Shared):Prop :=
 ∃ v H',s'.os=s.os/\AllBare s'.gens/\Un (jR outer) [] H H' s.heap s'.heap/\jA P w H' s'.heap/\bX v u/\Q v H'
def CR (CX:CXT) (outer:List Env) (P:Program) (w:World) (H:Hp) (s:Shared) (Q:VK) (E:XK) (r:Result) (s':Shared):Prop :=
 match r with
 |.ok (.ret u)=>CE outer P w H s Q u s'
 |.ok _=>False
 |.error e=>CX outer H s E e s'
structure jP (P:Program) (w:World) (K:PySem.W.Frag) (mg:Str->Option Value) (base:Heap) (CX:CXT) (k:Nat) (f:Addr) (fd:FuncData) (ps:List Str) (sp:Sp):Prop where
 len:∀ vs H Q E,sp vs H Q E->vs.length=ps.length
 run:∀ (A:Around) (outer:List Env) (s:Shared) (H:Hp) (args:Args) (us:List Value) (vs:List V) (Q:VK) (E:XK),eE k A->yQ P w K mg base A outer s H->BindsTo s fd args (ps.zip us)->bN vs us->sp vs H Q E ->
  codeAny (model P w) A (.call (.ref f) args) (CR CX outer P w H s Q E) s
theorem yQ.make {P:Program}{w:World}{K:PySem.W.Frag}{mg:Str->Option Value}{base:Heap}{A:Around}{outer:List Env}{s:Shared}{H:Hp}(e:yQ P w K mg base A outer s H) (C:Addr) (us:List Value) (kw:List (Str×Value)) :
  yQ P w K mg base (A.under (.builtin "type.__call__" ⟨.ref C :: us,kw⟩)) outer s H:=⟨by first | exact e.frames | (simpa [Around.under,Code.envs,Code.isFrame,pushEnvs] using e.frames),e.mod,e.bs,e.bsz,e.funs,e.frf,e.hok,e.bare⟩
section
variable {X:Cx}{pins:List (Addr×Obj)}{σ: St}{H:Hp}{s s':Shared}
theorem bC.env0 (I:bC X pins σ H s):yQ X.prog X.w X.K X.mg X.base X.A X.stack s H :=
 ⟨I.ok.frames,I.ok.mod,I.bs,cj I.ok.bsz I.sz,I.stack,I.stkFree,I.hok,I.bare⟩
theorem bC.after {Q:VK}{u:Value}(I:bC X pins σ H s) (h:CE X.stack X.prog X.w H s Q u s'):EP X pins σ Q u s':=by
 obtain ⟨v,H',os,bare,un,hok,r,q⟩:=h
 obtain ⟨hh,g,d,t,os'⟩:=s'
 obtain rfl:os'=s.os:=os
 exact ⟨v,H',I.call (h':=hh) (g':=g) (d':=d) (t':=t) (ch:=[]) un hok bare (fun b z=>absurd z (by simp)),r,q⟩
end
def aI6 (sp:Sp) (dvs:List V) (E:XK) (t:TA):TE:=fun σ H Q=>t σ H fun vs H1=>sp (vs++dvs) H1 Q E
def gQ (K:PySem.W.Frag) (fd:FuncData) (ps:List Str) (ds:List Value):Prop :=
 ∀ (s:Shared) (us:List Value),K.In s.heap->(us++ds).length=ps.length->BindsTo s fd ⟨us,[]⟩ (ps.zip (us++ds))
theorem gQ.all {K:PySem.W.Frag}{fd:FuncData}{ps:List Str}(h:∀ us:List Value,us.length=ps.length->bindArgs fd ⟨us,[]⟩=pure (ps.zip us)):gQ K fd ps []:=fun s us _ hl=>by
 rw [gj] at hl ⊢
 exact .of_eq (h us hl)
def jH (CX:CXT) (X:Cx) (E:XK):Prop:=∀ (pins:List (Addr×Obj)) (σ: St) (H:Hp) (s:Shared) (e:Value) (s':Shared),bC X pins σ H s->CX X.stack H s E e s'->X.xe e s'
section
variable {X:Cx}{CX:CXT}{k:Nat}{f C:Addr}{fd:FuncData}{ps:List Str}{sp:Sp}{dvs:List V}{ds:List Value}{E:XK}{x m:Str}{p pos apos:Pos}{e o:Expr}{es:List Expr}{ta:TE}{t:TA}
theorem bE1 {pins:List (Addr×Obj)}{σ: St}{H:Hp}{s:Shared}{Q:VK}{us:List Value}{vs:List V}(F:jP X.prog X.w X.K X.mg X.base CX k f fd ps sp) (hr:eE k X.A) (hb:gQ X.K fd ps ds) (hd:bN dvs ds) (hx:jH CX X E)
  (I:bC X pins σ H s) (r:bN vs us) (h:sp (vs++dvs) H Q E):wpAny (model X.prog X.w) X.A (call (.ref f) us) (EP X pins σ Q) X.xe s:=by
 have r2:bN (vs++dvs) (us++ds):=r.append hd
 have hl:(us++ds).length=ps.length:=by rw [<- r2.length];exact F.len _ _ _ _ h
 refine on (lv (F.run X.A X.stack s H ⟨us,[]⟩ (us++ds) (vs++dvs) Q E hr I.env0 (hb s us I.kIn hl) r2 h) fun r s' hq=>?_)
 cases r with
 |error e=>exact hx pins σ H s e s' I hq
 |ok fl =>
  cases fl with
  |ret u=>exact I.after hq
  |next=>exact False.elim hq
  |brk=>exact False.elim hq
  |cont=>exact False.elim hq
theorem zO (F:jP X.prog X.w X.K X.mg X.base CX k f fd ps sp) (hr:eE k X.A) (hg:Gl X x) (hm:X.mg x=some (.ref f)) (hk:PySem.W.keepIn X.K (.ref f)=true) (hb:gQ X.K fd ps ds) (hd:bN dvs ds) (hx:jH CX X E)
  (ha:PA X (e :: es) t) (hdb:autoParam ((x == ("__debug__": Str))=false) Rq1._auto_1) (he:autoParam (starEach (e :: es) X.env=(false,eval e X.env) :: starEach es X.env) Rq0._auto_1) (hpl:autoParam ((backTo pos (starEach es X.env)).any (·.1)=false) Rq0._auto_1) :
  PE X (.Call (.Name x p) (e :: es) [] pos) (aI6 sp dvs E t):=by
 intro pins s σ H Q I h
 refine gu (pK I hg hm ?_ hdb)
 refine PySem.W.callWith_K (h₀:=X.base) I.ok.mod.kin hk (dJ (ha pos pins s σ H _ I h) ?_) he hpl;rintro us s1 ⟨vs,H1,I1,r,q⟩;refine ⟨I1.kIn,?_⟩
 exact bE1 F hr hb hd hx I1 r q
end
section
variable {X:Cx}{CX:CXT}{k:Nat}{f C:Addr}{fd:FuncData}{ps ks:List Str}{sp:Sp}{E:XK}{x m:Str}{p pos apos kpos:Pos}{e o:Expr}{es:List Expr}{kws:List Keyword}{te ta:TE}{t tk:TA}{nm:Option Str}
variable {g:List Value->List Value->List Value}{gV:List V->List V->List V}
end
structure gG (N P:List Str) (sc:Scope):Prop where
 kind:sc.kind= .function
 co:sc.isCoroutine=false
 gen:sc.isGenerator=false
 nd:N.Nodup
 pre:N.take P.length=P
 par:∀ x∈P,sc.names.lookup x=some .local\/sc.names.lookup x=some .cell
 nofree:∀ y∈sc.names,y.2≠ .free
theorem tJ {kindOf:Str->Option NameKind}{x:Str}:∀ {binds:List (Str×Value)}{m:Str->Option Value},(∀ v,(x,v)∉binds)->bindL kindOf binds m x=m x
 |[],_,_=>rfl
 |(n,v) :: r,m,h=>by
  unfold bindL
  rw [tJ fun w hw=>h w (ay _ hw)]
  split
  ·have:x≠n:=by rintro rfl;exact h v bh
   simp [this]
  ·rfl
theorem sI {kindOf:Str->Option NameKind}{x:Str}:∀ {binds:List (Str×Value)}{m:Str->Option Value},(∀ v,(x,v)∉binds)->bindC kindOf binds m x=m x
 |[],_,_=>rfl
 |(n,v) :: r,m,h=>by
  unfold bindC
  rw [sI fun w hw=>h w (ay _ hw)]
  split
  ·rfl
  ·have:x≠n:=by rintro rfl;exact h v bh
   simp [this]
theorem sG {kindOf:Str->Option NameKind}{x:Str}{v:Value}:∀ {P:List Str}{vs:List Value}{i:Nat}{m:Str->Option Value},P.Nodup->P[i]?=some x->vs[i]?=some v->kindOf x=some .local ->
  bindL kindOf (P.zip vs) m x=some v
 |[],_,_,_,_,h,_,_=>by simp at h
 |_ :: _,[],_,_,_,_,h,_=>by simp at h
 |p :: P,w :: vs,0,m,nd,h1,h2,hk=>by
  simp at h1 h2;subst h1;subst h2
  show bindL kindOf ((p,w) :: P.zip vs) m p=_
  unfold bindL
  rw [tJ fun v hv=>(gm.mp nd).1 (oo hv).1,bc hk]
  simp
 |p :: P,w :: vs,i+1,m,nd,h1,h2,hk=>by
  show bindL kindOf ((p,w) :: P.zip vs) m x=_
  unfold bindL
  exact sG (i:=i) (gm.mp nd).2 (by simpa using h1) (by simpa using h2) hk
theorem sD {kindOf:Str->Option NameKind}{x:Str}{v:Value}:∀ {P:List Str}{vs:List Value}{i:Nat}{m:Str->Option Value},P.Nodup->P[i]?=some x->vs[i]?=some v->kindOf x≠some .local ->
  bindC kindOf (P.zip vs) m x=some v
 |[],_,_,_,_,h,_,_=>by simp at h
 |_ :: _,[],_,_,_,_,h,_=>by simp at h
 |p :: P,w :: vs,0,m,nd,h1,h2,hk=>by
  simp at h1 h2;subst h1;subst h2
  show bindC kindOf ((p,w) :: P.zip vs) m p=_
  unfold bindC
  rw [sI fun v hv=>(gm.mp nd).1 (oo hv).1,ar hk]
  simp
 |p :: P,w :: vs,i+1,m,nd,h1,h2,hk=>by
  show bindC kindOf ((p,w) :: P.zip vs) m x=_
  unfold bindC
  exact sD (i:=i) (gm.mp nd).2 (by simpa using h1) (by simpa using h2) hk
def iJ (N:List Str) (vs:List V):St:=vs.map some++List.replicate (N.length - vs.length) none
def gO (CX:CXT) (P:Program) (w:World) (K:PySem.W.Frag) (mg:Str->Option Value) (base:Heap) (N:List Str) (qual:Str) (scope:Scope) (f:Addr) (cd:Value) (A:Around) (outer:List Env) (s:Shared) (H:Hp) (E:XK):Cx where
 prog:=P
 w:=w
 K:=K
 mg:=mg
 base:=base
 A:=A.deeper (envOfC qual scope s.heap.objs.size f cd)
 N:=N
 s₀:=s
 H₀:=H
 env:=envOfC qual scope s.heap.objs.size f cd
 outer:=outer
 stack:=envOfC qual scope s.heap.objs.size f cd :: outer
 ex:=[]
 calm:=true
 fn:=fun _=>true
 pn:=[]
 xe:=fun e s'=>wpAny (model P w) (A.deeper (envOfC qual scope s.heap.objs.size f cd)) (leaving (envOfC qual scope s.heap.objs.size f cd) e) (fun _ s''=>CX outer H s E e s'') (fun e' s''=>CX outer H s E e' s'') s'
theorem vB {sc:Scope}{n:Nat}{x:Str}(h:sc.names.lookup x=some .cell):∃ c,(cellsFrom n sc.names []).lookup x=some c:=by
 have q:=ud sc.names n [] (.inl h)
 exact ji.mp q
theorem tN {CX:CXT}{P:Program}{w:World}{K:PySem.W.Frag}{mg:Str->Option Value}{base:Heap}{N ps:List Str}{qual:Str}{scope:Scope}{f:Addr}{cd:Value}{A:Around}{outer:List Env}{s s1:Shared}{H:Hp}{E:XK}{us:List Value}{vs:List V}
  (S:gG N ps scope) (hd:A.handled=none) (e0:yQ P w K mg base A outer s H) (hl:vs.length=ps.length) (r:bN vs us)
  (x:InCallC s s.heap.objs.size (bindL (envOfC qual scope s.heap.objs.size f cd).kindOf (ps.zip us) fun _=>none) (cellsFrom (s.heap.objs.size+1) scope.names []) (bindC (envOfC qual scope s.heap.objs.size f cd).kindOf (ps.zip us) fun _=>none) s1) :
  bC (gO CX P w K mg base N qual scope f cd A outer s H E) [] (iJ N vs) H s1:=by
 have hpl:ps.length<=N.length:=by have:=dg List.length S.pre;rw [cv] at this;omega
 obtain ⟨h1,tk,rfl,hk⟩:=x.done
 have noA:∀ b:Addr,b∉(gO CX P w K mg base N qual scope f cd A outer s H E).ex:=fun b z=>absurd (show b∈([]:List Addr) from z) (by simp)
 refine ⟨⟨e0.mod,S.kind,rfl,rfl,ai _,fun y z c h1 h2=>?_,fun y hy=>?_,fun y c _ h=>?_,fun _=>hd,Around.frames_deeper e0.frames,.inr ⟨rfl,rfl⟩,fun b z=>absurd z (noA b),e0.bs,e0.bsz,fun b _ _=>noA b,fun b z=>absurd z (noA b),e0.funs,e0.frf⟩,
  rfl,e0.bare,Un.kept hk,⟨_,x.toInCall.ns,fun i y v h1 h2 h3=>?_⟩,fun y c h=>⟨_,x.cell y c h⟩,e0.hok.fresh (ai _),fun y c h=>?_,fun p hp=>absurd (show p∈([]:List (Addr×Obj)) from hp) (by simp),e0.hok.kept hk,?_⟩
 ·exact name_of_addr x.apart (iq h1) (iq h2)
 ·have hy:scope.names.lookup y=some .cell\/scope.names.lookup y=some .free:=hy
  rcases hy with hy | hy
  ·exact vB hy
  ·exact absurd rfl (S.nofree _ (iq hy))
 ·exact bu (x.above y c (iq h))
 ·have hi:i < vs.length:=by
   unfold iJ at h2
   by_cases hi:i < vs.length
   ·exact hi
   ·rw [List.getElem?_append_right (by simpa using hi)] at h2
    rw [List.getElem?_replicate] at h2
    split at h2 <;> cases h2
  have ha:vs[i]?=some v:=by
   unfold iJ at h2
   rw [List.getElem?_append_left (by simpa using hi),dh] at h2
   cases e:vs[i]? with
   |none=>rw [e] at h2;cases h2
   |some a=>rw [e] at h2;cases h2;rfl
  obtain ⟨u,hu,rv⟩:=r.get ha
  have hp:ps[i]?=some y:=by
   rw [<- S.pre,List.getElem?_take_of_lt (by omega)];exact h1
  have ndP:ps.Nodup:=by rw [<- S.pre];exact S.nd.sublist (List.take_sublist _ _)
  refine ⟨u,rv,?_⟩
  rcases S.par y (ap hp) with k | k
  ·exact .inl ⟨k,sG ndP hp hu k⟩
  ·obtain ⟨c,e⟩:=vB (n:=s.heap.objs.size+1) k
   refine .inr ⟨.inl k,c,e,?_⟩
   have q:=x.cell y c e
   rw [sD ndP hp hu (by show scope.names.lookup y≠_;rw [k];decide)] at q
   exact q
 ·exact e0.hok.fresh (bu (x.above y c (iq h)))
 ·unfold iJ
  show _=N.length
  rw [ak,aa,jw]
  omega
theorem aX0 {CX:CXT}{P:Program}{w:World}{K:PySem.W.Frag}{mg:Str->Option Value}{base:Heap}{k:Nat}{f:Addr}{name qual:Str}{params:Arguments}{body:List Stmt}{scope:Scope}{dV kV doc pm cdv ct oc:Value}{an od:Option Addr}
  {osl:Array (Option Value)}{N ps:List Str}{sp:Sp}(lk:K.lookup f=some ⟨oc,od,.func (PySem.W.fnOf name qual params body scope dV kV doc pm an cdv ct),osl⟩) (hcd:PySem.W.codeIn K cdv qual=true) (S:gG N ps scope)
  (len:∀ vs H Q E,sp vs H Q E->vs.length=ps.length)
  (hbody:∀ (A:Around) (outer:List Env) (s:Shared) (H:Hp) (vs:List V) (Q:VK) (E:XK),eE k (A.deeper (envOfC qual scope s.heap.objs.size f cdv))->sp vs H Q E ->
   ∃ t,oN (gO CX P w K mg base N qual scope f cdv A outer s H E) body t/\t { nx:=fun _ H'=>Q .non H',rt:=Q } (iJ N vs) H) :
  jP P w K mg base CX (k+1) f (PySem.W.fnOf name qual params body scope dV kV doc pm an cdv ct) ps sp:=by
 refine ⟨len,fun A outer s H args us vs Q E hr e0 hb r hsp=>?_⟩
 have hl:=len _ _ _ _ hsp
 have KX:K.In s.heap:=e0.mod.kin.keeps fun b o e=>(e0.bs b o e).1
 have lim:s.heap.NoLimit:=e0.mod.nolimit.keeps fun b o e=>(e0.bs b o e).1
 have hkind:∀ y∈ps.zip us,scope.names.lookup y.1=some .local\/(scope.names.lookup y.1=some .cell/\((cellsFrom (s.heap.objs.size+1) scope.names []).lookup y.1).isSome=true):=fun ⟨n,v⟩ hy=>by
  rcases S.par n (oo hy).1 with q | q
  ·exact .inl q
  ·exact .inr ⟨q,ud _ _ _ (.inl q)⟩
 refine uo hr.depth (KX _ _ lk) rfl S.co S.gen rfl (PySem.W.codeRec_of KX hcd) (hb _ _ _ _ ?_)
 refine qx S.kind hkind fun env he s1 x=>?_
 subst he
 refine ⟨lim.keeps x.toInCall.keep,codeAny_func ?_⟩
 obtain ⟨t,ht,hq⟩:=hbody A outer s H vs Q E (hr.deeper _) hsp
 have I:bC (gO CX P w K mg base N qual scope f cdv A outer s H E) [] (iJ N vs) H s1:=tN S hr.hd e0 hl r x
 refine di (ht [] s1 (iJ N vs) H _ I hq) (fun fl s' hs=>?_) fun e s' hs=>hs
 have fin:∀ {σ':St}{H':Hp}{v:V}{u:Value},bC (gO CX P w K mg base N qual scope f cdv A outer s H E) [] σ' H' s'->bX v u->Q v H'->CE outer P w H s Q u s' :=
  fun {σ' H' v u} J rv q=>⟨v,H',J.os,J.bare,J.base,J.hok,rv,q⟩
 cases fl with
 |ret u =>
  obtain ⟨v,σ',H',J,rv,q⟩:=hs
  exact fin J rv q
 |next =>
  obtain ⟨σ',H',J,q⟩:=hs
  exact fin (v:=V.non) (u:=Value.none) J rfl q
 |brk =>
  obtain ⟨_,_,_,q⟩:=hs
  exact False.elim q
 |cont =>
  obtain ⟨_,_,_,q⟩:=hs
  exact False.elim q
section
variable {X:Cx}{x:Str}{p pos:Pos}{e:Expr}{es:List Expr}{t:TA}{id T:String}{r:List V->Hp->VK->Prop}
def tCB (r:List V->Hp->VK->Prop) (t:TA):TE:=fun σ H Q=>t σ H fun vs H1=>r vs H1 Q
theorem qG (hc:eM X (.builtin id) r) (hg:Gl X x) (hm:X.mg x=none) (hv:bootBuiltins x=some (.builtin id)) (ha:PA X (e :: es) t) (hn:autoParam (x≠"__name__") Rq1._auto_1) (hdb:autoParam ((x == ("__debug__": Str))=false) Rq1._auto_1)
  (he:autoParam (starEach (e :: es) X.env=(false,eval e X.env) :: starEach es X.env) Rq0._auto_1) (hpl:autoParam ((backTo pos (starEach es X.env)).any (·.1)=false) Rq0._auto_1):PE X (.Call (.Name x p) (e :: es) [] pos) (tCB r t):=by
 intro pins s σ H Q I h
 refine gu (kD I hg hm hv ?_ hn hdb)
 refine PyProof.Rows.callWith_builtin1 (dJ (ha pos pins s σ H _ I h) ?_) he hpl;rintro us s1 ⟨vs,H1,I1,r1,q1⟩;exact hc pins s1 σ H1 vs us Q I1 r1 q1
theorem aE9 (hc:eM X (.type T) r) (hg:Gl X x) (hm:X.mg x=none) (hv:bootBuiltins x=some (.type T)) (ha:PA X (e :: es) t) (hn:autoParam (x≠"__name__") Rq1._auto_1) (hdb:autoParam ((x == ("__debug__": Str))=false) Rq1._auto_1)
  (he:autoParam (starEach (e :: es) X.env=(false,eval e X.env) :: starEach es X.env) Rq0._auto_1) (hpl:autoParam ((backTo pos (starEach es X.env)).any (·.1)=false) Rq0._auto_1):PE X (.Call (.Name x p) (e :: es) [] pos) (tCB r t):=by
 intro pins s σ H Q I h
 refine gu (kD I hg hm hv ?_ hn hdb)
 refine ge (dJ (ha pos pins s σ H _ I h) ?_) he hpl;rintro us s1 ⟨vs,H1,I1,r1,q1⟩;exact hc pins s1 σ H1 vs us Q I1 r1 q1
end
section
variable {κ: Type} [DecidableEq κ]
def fG (kvs:List (κ×V)) (k:κ):Option V:=(kvs.find? fun kv=>decide (kv.1=k)).map (·.2)
def fH (kvs:List (κ×V)) (k:κ) (v:V):List (κ×V) :=
 if (kvs.any fun kv=>decide (kv.1=k))=true then kvs.map (fun kv=>if kv.1=k then (kv.1,v) else kv) else kvs++[(k,v)]
theorem jZ {k:κ}:fG ([]:List (κ×V)) k=none:=rfl
theorem cZ {p:κ×V}{r:List (κ×V)}{k:κ}(e:p.1=k):fG (p :: r) k=some p.2:=by simp [fG,List.find?_cons,e]
theorem cC {p:κ×V}{r:List (κ×V)}{k:κ}(e:¬ p.1=k):fG (p :: r) k=fG r k:=by simp [fG,List.find?_cons,e]
theorem jY (k:κ):∀ kvs:List (κ×V),(kvs.any fun kv=>decide (kv.1=k))=(fG kvs k).isSome
 |[]=>rfl
 |p :: r=>by
  rw [ko]
  by_cases e:p.1=k
  ·simp only [cZ e,decide_eq_true e,Bool.true_or,Option.isSome_some]
  ·rw [cC e,au e,vp];exact jY k r
theorem vI (k j:κ) (y:V):∀ kvs:List (κ×V),fG (kvs.map fun kv=>if kv.1=k then (kv.1,y) else kv) j=(fG kvs j).map fun x=>if j=k then y else x
 |[]=>rfl
 |p :: r=>by
  have ih:=vI k j y r
  rw [gv]
  by_cases h:p.1=k
  ·rw [bc h]
   by_cases e:p.1=j
   ·rw [cZ (p:=(p.1,y)) e,cZ e,oq,bc (e.symm.trans h)]
   ·rw [cC (p:=(p.1,y)) e,cC e,ih]
  ·rw [ar h]
   by_cases e:p.1=j
   ·rw [cZ (p:=p) e,cZ e,oq,ar (fun z=>h (e.trans z))]
   ·rw [cC (p:=p) e,cC e,ih]
theorem sK (k j:κ) (y:V):∀ kvs:List (κ×V),fG kvs k=none->fG (kvs++[(k,y)]) j=if j=k then some y else fG kvs j
 |[],_=>by
  by_cases e:k=j
  ·rw [bc e.symm];exact cZ (p:=(k,y)) e
  ·rw [ar (fun z=>e z.symm)];exact cC (p:=(k,y)) e
 |p :: r,hn=>by
  rw [nu]
  have hk:¬ p.1=k:=fun z=>by rw [cZ z] at hn;cases hn
  rw [cC hk] at hn
  have ih:=sK k j y r hn
  by_cases e:p.1=j
  ·rw [cZ e,cZ e,ar (fun z=>hk (e.trans z))]
  ·rw [cC e,cC e,ih]
theorem aI3 (kvs:List (κ×V)) (k j:κ) (y:V):fG (fH kvs k y) j=if j=k then some y else fG kvs j:=by
 unfold fH
 by_cases a:(kvs.any fun kv=>decide (kv.1=k))=true
 ·rw [bc a,vI]
  rw [jY] at a
  by_cases e:j=k
  ·obtain ⟨x,hx⟩:=ji.mp a
   rw [bc e,e,hx,oq,bc rfl]
  ·rw [ar e]
   cases fG kvs j with
   |none=>rfl
   |some x=>rw [oq,ar e]
 ·rw [ar a]
  refine sK k j y kvs ?_
  rw [jY] at a
  cases q:fG kvs k with
  |none=>rfl
  |some x=>rw [q] at a;exact (a rfl).elim
theorem iO (kvs:List (κ×V)) (k:κ) (v:V):(fH kvs k v).length<=kvs.length+1:=by
 unfold fH
 split
 ·rw [aa];omega
 ·rw [ak,cu,jo];omega
theorem mY {kvs:List (κ×V)}{k:κ}(v:V) (h:fG kvs k=none):fH kvs k v=kvs++[(k,v)]:=by
 unfold fH
 rw [jY,h]
 exact ar (by decide)
theorem kW.isSome_eq {o:Option V}{u:Option Value}(r:kW o u):o.isSome=u.isSome:=by
 cases o with
 |none=>cases u with
  |none=>rfl
  |some _=>exact (show False from r).elim
 |some _=>cases u with
  |none=>exact (show False from r).elim
  |some _=>rfl
theorem KV.val {kvs:List (κ×V)}{vs:List (κ×Value)}(r:KV kvs vs) (k:κ):kW (fG kvs k) (valueAt vs k):=by
 unfold KV at r
 induction r with
 |nil=>exact gi
 |@cons p q ps qs h t ih =>
  obtain ⟨h1,h2⟩:=h
  by_cases e:p.1=k
  ·have e':q.1=k:=h1.symm.trans e
   have b:valueAt (q :: qs) k=some q.2:=by simp [valueAt,List.find?_cons,e']
   rw [cZ e,b];exact h2
  ·have e':¬ q.1=k:=fun z=>e (h1.trans z)
   have b:valueAt (q :: qs) k=valueAt qs k:=by simp [valueAt,List.find?_cons,e']
   rw [cC e,b];exact ih
theorem KV.any {kvs:List (κ×V)}{vs:List (κ×Value)}(r:KV kvs vs) (k:κ):(kvs.any fun kv=>decide (kv.1=k))=vs.any fun kv=>decide (kv.1=k):=by
 unfold KV at r
 induction r with
 |nil=>rfl
 |cons h t ih=>rw [ko,ko,ih,h.1]
theorem KV.repl {kvs:List (κ×V)}{vs:List (κ×Value)}(r:KV kvs vs) (k:κ) {y:V}{u:Value}(ry:bX y u) :
  KV (kvs.map fun kv=>if kv.1=k then (kv.1,y) else kv) (vs.map fun kv=>if kv.1=k then (kv.1,u) else kv):=by
 unfold KV at r ⊢
 induction r with
 |nil=>exact .nil
 |@cons p q ps qs h t ih =>
  rw [gv,gv]
  refine .cons ?_ ih
  obtain ⟨h1,h2⟩:=h
  by_cases e:p.1=k
  ·rw [bc e,bc (h1.symm.trans e)];exact ⟨h1,ry⟩
  ·rw [ar e,ar (fun z=>e (h1.trans z))];exact ⟨h1,h2⟩
theorem KV.put {kvs:List (κ×V)}{vs:List (κ×Value)}(r:KV kvs vs) (k:κ) {y:V}{u:Value}(ry:bX y u):KV (fH kvs k y) (stored vs k u):=by
 unfold fH stored
 rw [r.any k]
 by_cases e:(vs.any fun kv=>decide (kv.1=k))=true
 ·rw [bc e,bc e];exact r.repl k ry
 ·rw [ar e,ar e];exact Paired.snoc r ⟨rfl,ry⟩
theorem KV.length {kvs:List (κ×V)}{vs:List (κ×Value)}(r:KV kvs vs):kvs.length=vs.length:=jl r
end
theorem wU {P:Program}{w:World}{k:Key}{u:Value}(r:bX (kV k) u):(cG P w).is k u=true:=by
 cases k with
 |inl i=>obtain ⟨t,e⟩:=(show ∃ t,u=Value.int i t from r);subst e;exact vY P w i t
 |inr x=>obtain ⟨t,e⟩:=(show ∃ t,u=Value.str x t from r);subst e;exact wK P w x t
theorem rT {P:Program}{w:World}:∀ {ks:List Key}{us:List Value},bN (ks.map kV) us->ItemsAre (cG P w) ks us
 |[],_,r=>by rw [wo] at r;cases r;exact .nil
 |k :: ks,_,r=>by
  rw [gv] at r
  cases r with
  |cons h t=>exact .cons (wU h) (rT t)
abbrev KT (H:Hp):List (List Key×V)->List (List Key×Addr×Value)->Prop:=Paired fun p q=>p.1=q.1/\H q.2.1=some (.tup (p.1.map kV))/\bX p.2 q.2.2
theorem KT.val {H:Hp}{kvs:List (List Key×V)}{xs:List (List Key×Addr×Value)}(r:KT H kvs xs) (k:List Key):kW (fG kvs k) ((atKey xs k).map (·.2)):=by
 induction r with
 |nil=>exact gi
 |@cons p q ps qs h t ih =>
  obtain ⟨h1,_,h2⟩:=h
  by_cases e:p.1=k
  ·have e':q.1=k:=h1.symm.trans e
   have b:atKey (q :: qs) k=some q.2:=by simp [atKey,List.find?_cons,e']
   rw [cZ e,b];exact h2
  ·have e':¬ q.1=k:=fun z=>e (h1.trans z)
   have b:atKey (q :: qs) k=atKey qs k:=by simp [atKey,List.find?_cons,e']
   rw [cC e,b];exact ih
theorem KT.repl {H:Hp}{kvs:List (List Key×V)}{xs:List (List Key×Addr×Value)}(r:KT H kvs xs) (k:List Key) {y:V}{u:Value}(ry:bX y u) :
  KT H (kvs.map fun kv=>if kv.1=k then (kv.1,y) else kv) (xs.map (putAt k u)):=by
 induction r with
 |nil=>exact .nil
 |@cons p q ps qs h t ih =>
  rw [gv,gv]
  refine .cons ?_ ih
  obtain ⟨h1,h2,h3⟩:=h
  unfold putAt
  by_cases e:p.1=k
  ·rw [bc e,bc (h1.symm.trans e)];exact ⟨h1,h2,ry⟩
  ·rw [ar e,ar (fun z=>e (h1.trans z))];exact ⟨h1,h2,h3⟩
theorem KT.put {H:Hp}{kvs:List (List Key×V)}{xs:List (List Key×Addr×Value)}(r:KT H kvs xs) (k:List Key) {b:Addr}{y:V}{u:Value}(hb:H b=some (.tup (k.map kV))) (ry:bX y u) :
  KT H (fH kvs k y) (storedH xs k b u):=by
 have e:(kvs.any fun kv=>decide (kv.1=k))=(atKey xs k).isSome:=by
  rw [jY,(r.val k).isSome_eq,mi]
 unfold fH storedH
 rw [e]
 by_cases q:(atKey xs k).isSome=true
 ·rw [bc q,bc q];exact r.repl k ry
 ·rw [ar q,ar q];exact Paired.snoc r ⟨rfl,hb,ry⟩
theorem KT.keeps {H H':Hp}{kvs:List (List Key×V)}{xs:List (List Key×Addr×Value)}(r:KT H kvs xs) (ht:∀ b ys,H b=some (.tup ys)->H' b=some (.tup ys)):KT H' kvs xs :=
 Paired.mapP r fun _ _ z=>⟨z.1,ht _ _ z.2.1,z.2.2⟩
section
variable {P:Program}{w:World}{H:Hp}{h:Heap}{a:Addr}
theorem aX8 {u:HO}(ok:jA P w H h) (e:Rd H a u):cK P w H h a u:=e.ok ok
theorem yV {kvs:List (Key×V)}(ok:jA P w H h) (e:Rd H a (.dK kvs)):kvs.length<=sizeLine/\(a == sysModules)=false/\∃ vs,KV kvs vs/\h.DictOf (cG P w) a vs :=
 show cK P w H h a (.dK kvs) from aX8 ok e
theorem yY {kvs:List (Key×V)}(ok:jA P w H h) (e:H a=some (.dK kvs)):kvs.length<=sizeLine/\(a == sysModules)=false/\∃ vs,KV kvs vs/\h.DictOf (cG P w) a vs:=yV ok (.inl e)
theorem uW {ks:List Key}(ok:jA P w H h) (e:H a=some (.tup (ks.map kV))):(tupleKind (cG P w)).is h ks a:=by
 obtain ⟨_,its,r,o,h1,h2,n,h3,_⟩:=(show cK P w H h a (.tup (ks.map kV)) from ok a _ e)
 exact ⟨o,its.toArray,n,h1,h2,h3,by simpa using rT r⟩
theorem aA3 {kvs:List (List Key×V)}(ok:jA P w H h) (e:Rd H a (.dT kvs)):kvs.length<=sizeLine/\(a == sysModules)=false /\
  ∃ xs,KT H kvs xs/\h.DictOfH (tupleKind (cG P w)) a xs:=by
 obtain ⟨z,y,xs,r,o,es,ep,h1,h2,h3,h4,h5⟩:=(show cK P w H h a (.dT kvs) from aX8 ok e)
 refine ⟨z,y,xs,r,o,es,ep,h1,h2,h3,h4,fun x hx=>?_,h5⟩
 have all:∀ {l:List (List Key×V)}{m:List (List Key×Addr×Value)},KT H l m->∀ x∈m,(tupleKind (cG P w)).is h x.1 x.2.1:=by
  intro l m q
  induction q with
  |nil=>intro x hx;exact nomatch hx
  |@cons p q ps qs hq t ih =>
   intro x hx
   rcases cq.mp hx with e | hx
   ·subst e
    exact uW ok (by rw [<- hq.1];exact hq.2.1)
   ·exact ih x hx
 exact all r x hx
theorem bU5 {kvs:List (List Key×V)}(ok:jA P w H h) (e:H a=some (.dT kvs)):kvs.length<=sizeLine/\(a == sysModules)=false /\
  ∃ xs,KT H kvs xs/\h.DictOfH (tupleKind (cG P w)) a xs:=aA3 ok (.inl e)
end
def iS (H:Hp) (a:Addr) (y:V) (r:Option V):Prop :=
 (∃ kvs k,Rd H a (.dK kvs)/\y=kV k/\r=fG kvs k)\/∃ kvs k b,Rd H a (.dT kvs)/\y= .ref b/\H b=some (.tup (k.map kV))/\r=fG kvs k
def oV (H:Hp) (a:Addr) (y v:V) (H':Hp):Prop :=
 (∃ kvs k,H a=some (.dK kvs)/\y=kV k/\kvs.length < sizeLine/\H'=aJ H a (.dK (fH kvs k v))) \/
 ∃ kvs k b,H a=some (.dT kvs)/\y= .ref b/\H b=some (.tup (k.map kV))/\kvs.length < sizeLine/\H'=aJ H a (.dT (fH kvs k v))
theorem iS.k {H:Hp}{a:Addr}{kvs:List (Key×V)}{k:Key}(e:H a=some (.dK kvs)):iS H a (kV k) (fG kvs k):= .inl ⟨kvs,k,.inl e,rfl,rfl⟩
theorem oV.k {H:Hp}{a:Addr}{kvs:List (Key×V)}{k:Key}{v:V}(e:H a=some (.dK kvs)) (hl:kvs.length < sizeLine):oV H a (kV k) v (aJ H a (.dK (fH kvs k v))):= .inl ⟨kvs,k,e,rfl,hl,rfl⟩
section
variable {X:Cx}{pins:List (Addr×Obj)}{σ: St}{H:Hp}{s:Shared}{a:Addr}{y v:V}{u r:Value}{o:Option V}{A:Around}{E:Value->Shared->Prop}
theorem bC.big (I:bC X pins σ H s):sysModules < s.heap.objs.size:=by
 have h:mainGlobals < s.heap.objs.size:=(I.mod.glob.keeps I.bk).lt
 exact Nat.lt_trans (by decide) h
theorem aD7 {Q:Value->Shared->Prop}(hu:A.units+1 < cLine) (I:bC X pins σ H s) (g:iS H a y (some v)) (ry:bX y u) (h:∀ w' s',bC X pins σ H s'->bX v w'->Q w' s') :
  wpAny (model X.prog X.w) A (getItem (.ref a) u) Q E s:=by
 rcases g with ⟨kvs,k,e,ey,l⟩ | ⟨kvs,k,b,e,ey,eb,l⟩
 ·subst ey
  obtain ⟨z,hd,vs,rel,dd⟩:=yV I.hok e
  obtain ⟨w',hw,rw'⟩:=kW.some_of (v:=v) (o:=valueAt vs k) (by rw [l];exact rel.val k)
  exact wpAny_getItem_of (wU ry) dd.mapOf hw (h w' _ (I.tok _) rw')
 ·subst ey
  cases (show u=Value.ref b from ry)
  obtain ⟨z,hd,xs,rel,dd⟩:=aA3 I.hok e
  obtain ⟨w',hw,rw'⟩:=kW.some_of (v:=v) (o:=(atKey xs k).map (·.2)) (by rw [l];exact rel.val k)
  obtain ⟨p,hp,hp2⟩:=ng.mp hw
  refine wpAny_getItem_heap (qp hu) (uW I.hok eb) dd hp ?_
  rw [hp2]
  exact h w' _ (I.tok _) rw'
theorem bY4 {Q:Value->Shared->Prop}(hu:A.units+1 < cLine) (I:bC X pins σ H s) (g:iS H a y o) (ry:bX y u) (h:∀ s',bC X pins σ H s'->Q (.bool o.isSome) s') :
  wpAny (model X.prog X.w) A (compareOp .In u (.ref a)) Q E s:=by
 rcases g with ⟨kvs,k,e,ey,l⟩ | ⟨kvs,k,b,e,ey,eb,l⟩
 ·subst ey
  obtain ⟨z,hd,vs,rel,dd⟩:=yV I.hok e
  refine wpAny_in_of (wU ry) hd dd.mapOf ?_
  rw [<- (rel.val k).isSome_eq, <- l]
  exact h _ (I.tok _)
 ·subst ey
  cases (show u=Value.ref b from ry)
  obtain ⟨z,hd,xs,rel,dd⟩:=aA3 I.hok e
  refine wpAny_in_heap (qp hu) (uW I.hok eb) hd dd ?_
  have q:=(rel.val k).isSome_eq
  rw [mi] at q
  rw [<- q, <- l]
  exact h _ (I.tok _)
theorem uR {h':Heap}{t':Nat}{ob:HO}(I:bC X pins σ H s) (mu:Mut (H a)) (hs:Heap.SameBut a s.heap h') (he:∃ q,h'.get? a=some q) (new:cK X.prog X.w (aJ H a ob) h' a ob) :
  bC X pins σ (aJ H a ob) { s with heap:=h',toks:=t' } :=
 I.write (x:=a) (e:=a) mu (.inl rfl) (fun b q hb z=>(hs.2 b hb).trans z) he new
theorem yT {P:Program}{w:World}{H':Hp}{h':Heap}{kvs:List (Key×V)}{vs:List (Key×Value)}(z:kvs.length<=sizeLine) (hd:(a == sysModules)=false) (rel:KV kvs vs) (dd:h'.DictOf (cG P w) a vs) :
  cK P w H' h' a (.dK kvs):=⟨z,hd,vs,rel,dd⟩
theorem aE5 {H':Hp}{Q:Unit->Shared->Prop}(hu:A.units+1 < cLine) (I:bC X pins σ H s) (g:oV H a y v H') (ry:bX y u) (rv:bX v r) (h:∀ s',bC X pins σ H' s'->Q () s') :
  wpAny (model X.prog X.w) A (setItem (.ref a) u r) Q E s:=by
 rcases g with ⟨kvs,k,e,ey,l,eH⟩ | ⟨kvs,k,b,e,ey,eb,l,eH⟩
 ·subst ey eH
  obtain ⟨z,hd,vs,rel,dd⟩:=yY I.hok e
  have hz:vs.length<=sizeLine:=by rw [<- rel.length];exact z
  have hl:(fH kvs k v).length<=sizeLine:=by have:=iO kvs k v;omega
  refine wpAny_setItem_pairs (hsz:=hz) (wU ry) dd fun h' dd' hs=>h _ ?_
  have he:∃ q,h'.get? a=some q:=by obtain ⟨q,_,_,hq,_⟩:=dd';exact ⟨q,hq⟩
  exact uR I (by rw [e];exact gi) hs he (yT hl hd (rel.put k rv) dd')
 ·subst ey eH
  cases (show u=Value.ref b from ry)
  obtain ⟨z,hd,xs,rel,dd⟩:=bU5 I.hok e
  have hz:xs.length<=sizeLine:=by rw [<- jl rel];exact z
  have hl:(fH kvs k v).length<=sizeLine:=by have:=iO kvs k v;omega
  refine wpAny_setItem_heap (hsz:=hz) (qp hu) (uW I.hok eb) dd fun h' dd' hs=>h _ ?_
  obtain ⟨q,es,ep,hq,h2,h3,h4,_,h5⟩:=dd'
  refine uR I (by rw [e];exact gi) hs ⟨q,hq⟩ ⟨hl,hd,_,(rel.put k eb rv).keeps fun c ys ec=>?_,q,es,ep,hq,h2,h3,h4,h5⟩
  rw [aH (jE ec e (fun z=>nomatch z))]
  exact ec
end
section
variable {X:Cx}{pins:List (Addr×Obj)}{σ: St}{H:Hp}{s:Shared}{a:Addr}{kvs:List (Key×V)}{k:Key}{u:Value}{A:Around}{E:Value->Shared->Prop}
end
def bC7 (i:Expr):Prop:=∀ ov iv,subscripted i false ov iv=operate [ov,iv] (getItem ov iv)
theorem aT2 {prog:Program}{w:World}{A:Around}{E:Value->Shared->Prop}{s:Shared}{env:Env}{value slice:Expr}{pos:Pos}{T id:String}{Q:Value->Shared->Prop}
  (hl:typeLookup (.type T) "__getitem__"=pure (some (.builtin id))) (hs:bC7 slice)
  (h:wpAny (model prog w) A (eval value env) (fun o s₁=>wpAny (model prog w) A (eval slice env) (fun i s₂=>s₂.TypeIs o T/\wpAny (model prog w) A (getItem o i) Q E s₂) E s₁) E s) :
  wpAny (model prog w) A (eval (.Subscript value slice pos) env) Q E s:=by
 refine yn (di h (fun o s₁ h₁=>di h₁ (fun i s₂ h₂=>?_) fun _ _ x=>x) fun _ _ x=>x)
 obtain ⟨hT,h₂⟩:=h₂
 unfold subscriptTail
 refine ac ?_
 rw [getitemInPython_of_ne hT.not_modules]
 refine ac (ua hT hl ?_)
 have fin:wpAny (model prog w) A (subscripted slice false o i) (fun r s₃=>wpAny (model prog w) A (letTemporaryGo value o r >>= fun _=>pure r) Q E s₃) E s₂:=by
  rw [hs o i]
  exact wpAny_operating (di h₂ (fun r s₃ h₃=>ac (wpAny_letTemporaryGo (ao h₃))) fun _ _ x=>x)
 first
  |exact ao (ac fin)
  |exact ac (ao (ac fin))
  |exact ac fin
theorem wM {X:Cx}{pins:List (Addr×Obj)}{σ: St}{H:Hp}{s:Shared}{a:Addr}{y:V}{o:Option V}(I:bC X pins σ H s) (g:iS H a y o):s.TypeIs (.ref a) "dict":=by
 rcases g with ⟨kvs,k,e,_,_⟩ | ⟨kvs,k,b,e,_,_,_⟩
 ·obtain ⟨_,_,vs,_,dd⟩:=yV I.hok e
  exact dd.typeIs
 ·obtain ⟨_,_,xs,_,dd⟩:=aA3 I.hok e
  exact dd.typeIs
def aW7 (td ty:TE):TE:=fun σ H Q=>td σ H fun x H1=>ty σ H1 fun y H2=>∃ a v,x= .ref a/\iS H2 a y (some v)/\Q v H2
def bX4 (ty td:TE):TE:=fun σ H Q=>ty σ H fun y H1=>td σ H1 fun x H2=>∃ a o,x= .ref a/\iS H2 a y o/\Q (.bl o.isSome) H2
def aX3 (td ty tv:TE):TS:=fun D σ H=>tv σ H fun v H1=>td σ H1 fun x H2=>ty σ H2 fun y H3=>∃ a H4,x= .ref a/\oV H3 a y v H4/\D.nx σ H4
section
variable {X:Cx}{o i e value:Expr}{pos pos' tpos:Pos}{td ty tv:TE}
theorem iL (hu:X.A.units+1 < cLine) (ho:PE X o td) (hi:PE X i ty) (hs:bC7 i):PE X (.Subscript o i pos) (aW7 td ty):=by
 intro pins s σ H Q I h
 refine aT2 PySem.F.slot_dict_getitem.lookup hs (dJ (ho pins s σ H _ I h) ?_);rintro u s1 ⟨x,H1,I1,rx,q1⟩;refine dJ (hi pins s1 σ H1 _ I1 q1) ?_;rintro iv s2 ⟨y,H2,I2,ry,a,v,ex,g,q2⟩
 subst ex
 obtain rfl:u=Value.ref a:=rx
 exact ⟨wM I2 g,aD7 hu I2 g ry fun w' s3 I3 rw'=>⟨v,H2,I3,rw',q2⟩⟩
theorem aH9 (hu:X.A.units+1 < cLine) (hi:PE X i ty) (ho:PE X o td):PC X .In i o (bX4 ty td):=by
 intro pins s σ H Q I h
 refine dJ (hi pins s σ H _ I h) ?_;rintro iv s1 ⟨y,H1,I1,ry,q1⟩;refine dJ (ho pins s1 σ H1 _ I1 q1) ?_;rintro u s2 ⟨x,H2,I2,rx,a,ov,ex,g,q2⟩
 subst ex
 obtain rfl:u=Value.ref a:=rx
 exact bY4 hu I2 g ry fun s3 I3=>⟨.bl ov.isSome,H2,I3,rfl,q2⟩
theorem pL (hu:X.A.units+1 < cLine) (ho:PE X o td) (hi:PE X i ty) (hv:PE X value tv) (hs:swapsWith value (some (.Subscript o i pos')) pos.line X.env=pure false) :
  PS X (.Assign [.Subscript o i pos'] value pos) (aX3 td ty tv):=by
 intro pins s σ H D I h
 refine wpAny_Assign_Subscript (dJ (hv pins s σ H _ I h) ?_) hs;rintro r s1 ⟨v,H1,I1,rv,q1⟩;refine dJ (ho pins s1 σ H1 _ I1 q1) ?_;rintro u s2 ⟨x,H2,I2,rx,q2⟩;refine dJ (hi pins s2 σ H2 _ I2 q2) ?_;rintro iv s3 ⟨y,H3,I3,ry,a,H4,ex,g,q3⟩
 subst ex
 obtain rfl:u=Value.ref a:=rx
 exact aE5 hu I3 g ry rv fun s4 I4=>⟨σ,H4,I4,q3⟩
end
theorem vK {P:Program}{w:World}{H:Hp}(h:Heap) (hb:sysModules < h.objs.size):cK P w H (h.push { cls:= .type "dict",data:= .dict #[] }) h.objs.size (.dK []) :=
 ⟨av _,ie.mpr (Ne.symm (cg hb)),[],.nil,Heap.DictOf.new h⟩
def tDNewK:TE:=fun _ H Q=>∀ p,H p=none->Q (.ref p) (aJ H p (.dK []))
section
variable {X:Cx}{pos:Pos}
theorem wI:PE X (.Dict [] [] pos) tDNewK:=fun pins s σ H Q I h =>
 wpAny_Dict_empty ⟨.ref s.heap.objs.size,_,I.laid (a:=s.heap.objs.size) (o:= .dK []) (t':=s.toks) (fun _ _ q=>ah _ q) (ai _) (vK s.heap I.big),rfl,h _ (I.hok.fresh (ai _))⟩
end
def xY:List (TE×TE)->St->Hp->(List (V×V)->Hp->Prop)->Prop
 |[],_,H,Q=>Q [] H
 |(tk,tv) :: r,σ,H,Q=>tk σ H fun x H1=>tv σ H1 fun y H2=>xY r σ H2 fun ps H3=>Q ((x,y) :: ps) H3
abbrev VV:List (V×V)->List (Value×Value)->Prop:=Paired fun p q=>bX p.1 q.1/\bX p.2 q.2
def PPs (X:Cx) (pos:Pos) (keys:List (Option Expr)) (values:List Expr) (trs:List (TE×TE)):Prop :=
 ∀ (pins:List (Addr×Obj)) (s:Shared) (σ: St) (H:Hp) (Q:List (V×V)->Hp->Prop),bC X pins σ H s->xY trs σ H Q ->
  wpAny (model X.prog X.w) X.A (evalPairs (pairTrees keys values X.env pos)) (fun vs s'=>∃ ps H',bC X pins σ H' s'/\VV ps vs/\Q ps H') X.xe s
theorem zJ {X:Cx}{pos:Pos}:PPs X pos [] [] []:=fun pins s σ H Q I h=>pairTrees_nil_walk ⟨[],H,I,.nil,h⟩
theorem iY {X:Cx}{pos:Pos}{k v:Expr}{ks:List (Option Expr)}{vs:List Expr}{tk tv:TE}{trs:List (TE×TE)}(hk:PE X k tk) (hv:PE X v tv) (hr:PPs X pos ks vs trs) :
  PPs X pos (some k :: ks) (v :: vs) ((tk,tv) :: trs):=fun pins s σ H Q I h =>
 pairTrees_cons_walk (dJ (hk pins s σ H _ I h) fun u s1 ⟨x,H1,I1,rx,q1⟩=>dJ (hv pins s1 σ H1 _ I1 q1) fun w2 s2 ⟨y,H2,I2,ry,q2⟩ =>
  dJ (hr pins s2 σ H2 _ I2 q2) (by rintro ws s3 ⟨ps,H3,I3,rel,q3⟩;exact ⟨(x,y) :: ps,H3,I3,.cons ⟨rx,ry⟩ rel,q3⟩))
def iT (kvs more:List (Key×V)):List (Key×V):=more.foldl (fun acc kv=>fH acc kv.1 kv.2) kvs
theorem KV.merge:∀ {more:List (Key×V)}{rs:List (Key×Value)}{kvs:List (Key×V)}{vs:List (Key×Value)},KV more rs->KV kvs vs->KV (iT kvs more) (merged vs rs):=by
 intro more rs kvs vs r
 unfold KV at r
 induction r generalizing kvs vs with
 |nil=>intro q;exact q
 |@cons p q ps qs h t ih =>
  intro r0
  have e:KV (fH kvs p.1 p.2) (stored vs q.1 q.2):=by
   have:=r0.put p.1 h.2
   rw [<- h.1];exact this
  exact ih e
theorem lX:∀ (more kvs:List (Key×V)),(iT kvs more).length<=kvs.length+more.length
 |[],kvs=>by show kvs.length<=kvs.length+0;omega
 |p :: r,kvs=>by
  have h1:=lX r (fH kvs p.1 p.2)
  have h2:=iO kvs p.1 p.2
  show (iT (fH kvs p.1 p.2) r).length<=_
  rw [cu];omega
theorem pY {P:Program}{w:World}:∀ {kvs:List (Key×V)}{ws:List (Value×Value)},VV (kvs.map fun kv=>(kV kv.1,kv.2)) ws->∃ rs,Carries (cG P w) ws rs/\KV kvs rs
 |[],_,r=>by rw [wo] at r;cases r;exact ⟨[],gi,.nil⟩
 |p :: kvs,_,r=>by
  rw [gv] at r
  cases r with
  |@cons a b as bs h t =>
   obtain ⟨rs,c,q⟩:=pY (P:=P) (w:=w) t
   obtain ⟨b1,b2⟩:=b
   exact ⟨(p.1,b2) :: rs,⟨wU h.1,rfl,c⟩,.cons ⟨rfl,h.2⟩ q⟩
def bL0 (trs:List (TE×TE)):TE:=fun σ H Q=>∀ p,H p=none->xY trs σ (aJ H p (.dK [])) fun ps H2=>H2 p=some (.dK [])/\∃ kvs:List (Key×V),ps=kvs.map (fun kv=>(kV kv.1,kv.2))/\kvs.length<=15/\Q (.ref p) (aJ H2 p (.dK (iT [] kvs)))
theorem zZ {X:Cx}{pos:Pos}{keys:List (Option Expr)}{values:List Expr}{trs:List (TE×TE)}(h:PPs X pos keys values trs) (hall:keys.all (·.isSome)=true) (hl:keys.length=values.length) (h0:keys≠[])
  (h15:keys.length<=15):PE X (.Dict keys values pos) (bL0 trs):=by
 intro pins s σ H Q I q
 have hn:=I.hok.fresh (ai s.heap.objs.size)
 have I1:=I.laid (a:=s.heap.objs.size) (o:= .dK []) (h':=s.heap.push { cls:= .type "dict",data:= .dict #[] }) (t':=s.toks) (fun _ _ q=>ah _ q) (ai _) (vK s.heap I.big)
 refine wpAny_Dict_walk (knd:=cG X.prog X.w) hall hl h0 h15 (dJ (h pins _ σ _ _ I1 (q _ hn)) ?_);rintro ws s2 ⟨ps,H2,I2,rel,e,kvs,ep,lk,q2⟩
 subst ep
 obtain ⟨rs,c,rk⟩:=pY (P:=X.prog) (w:=X.w) rel
 obtain ⟨z,hd,vs0,r0,dd⟩:=yY I2.hok e
 cases r0
 refine ⟨rs,c,dd,fun h' dd' hs=>⟨.ref s.heap.objs.size,_,?_,rfl,q2⟩⟩
 have hz:(iT [] kvs).length<=sizeLine:=by
  have h1:=lX kvs []
  rw [jo] at h1
  rw [jf];omega
 have he:∃ q,h'.get? s.heap.objs.size=some q:=by obtain ⟨q,_,_,hq,_⟩:=dd';exact ⟨q,hq⟩
 exact uR I2 (by rw [e];exact gi) hs he (yT hz hd (rk.merge .nil) dd')
structure M1 (X:Cx) (o:Expr) (m:Str) (apos:Pos) (e:Expr) (cpos:Pos):Prop where
 base:attributeBase o m X.env (eval o X.env)=eval o X.env
 few:((backTo cpos (starEach [e] X.env)).all (fun x=> !x.1) && (backToKw cpos (keywordEach [] X.env)).all (fun x=>x.1.isSome)
  && decide (([e]:List Expr).length+([]:List Keyword).length+(if ([]:List Keyword).isEmpty then 0 else 1) < 30))=true
 line:(apos.endLine == cpos.line)=true
 trees:backTo cpos (starEach [e] X.env)=[(false,eval e X.env)]
structure M2 (X:Cx) (o:Expr) (m:Str) (apos:Pos) (e f:Expr) (cpos:Pos):Prop where
 base:attributeBase o m X.env (eval o X.env)=eval o X.env
 few:((backTo cpos (starEach [e,f] X.env)).all (fun x=> !x.1) && (backToKw cpos (keywordEach [] X.env)).all (fun x=>x.1.isSome)
  && decide (([e,f]:List Expr).length+([]:List Keyword).length+(if ([]:List Keyword).isEmpty then 0 else 1) < 30))=true
 line:(apos.endLine == cpos.line)=true
 trees:backTo cpos (starEach [e,f] X.env)=[(false,eval e X.env),(false,eval f X.env)]
section
variable {X:Cx}{pins:List (Addr×Obj)}{σ: St}{H:Hp}{s:Shared}{a:Addr}{y d:V}{u r:Value}{o:Option V}{A:Around}{E:Value->Shared->Prop}
end
section
variable {X:Cx}{o e f:Expr}{apos cpos:Pos}{td ty tx:TE}
end
section
variable {X:Cx}{pins:List (Addr×Obj)}{σ: St}{H:Hp}{s:Shared}{a:Addr}{kvs:List (Key×V)}{A:Around}{E:Value->Shared->Prop}
end
section
variable {X:Cx}{pins:List (Addr×Obj)}{σ: St}{H:Hp}{s:Shared}{a:Addr}{y:V}{u:Value}{A:Around}{E:Value->Shared->Prop}
end
end L2
namespace HT
open PySem PyProof.Rows
section
open PySem.SeqAt
open PySem.AutoSeq1 (wpAny_loadPart')
open PySem.MeetsSeq PySem.MeetsSeq2 PySem.MeetsSeq3
end
section
variable {prog:Program}{w:World}{A:Around}{E:Value->Shared->Prop}{s:Shared}
theorem cat_tup {t b:Addr}{vs ws:List Value}{Q:Value->Shared->Prop}(ht:IsTup s.heap t vs.toArray) (hb:IsTup s.heap b ws.toArray) (hv:vs≠[])
  (h1:ws=[]->Q (.ref t) s) (h2:ws≠[]->Q (.ref s.heap.objs.size) { s with heap:=s.heap.push { cls:= .type "tuple",data:= .seq (vs++ws).toArray } })
  (hsz:vs.length+ws.length<=sizeLine):wpAny (model prog w) A (binaryOp .Add (.ref t) (.ref b)) Q E s:=by
 obtain ⟨⟨cls,dd,data,sl⟩,ho,hc,n,hd⟩:=id ht
 obtain ⟨⟨cls2,dd2,data2,sl2⟩,ho2,hc2,n2,hd2⟩:=id hb
 simp only at hc hd hc2 hd2
 subst hc hd hc2 hd2
 have e:vs.toArray++ws.toArray=(vs++ws).toArray:=by simp
 by_cases hw:ws=[]
 ·exact concat_meets ⟨_,ho,rfl⟩ ⟨_,ho2,rfl⟩ noFill_tuple_add seq_tuple_add PySem.F.slot_tuple_add PySem.F.entry_tuple_add (PySem.F.args_tuple_add_2 _ _)
   (tuple_addW1 t b vs.toArray ws.toArray n n2 dd dd2 sl sl2 (by simpa using hv) (by simp [hw])) ⟨ho,ho2,h1 hw⟩
 ·refine concat_meets ⟨_,ho,rfl⟩ ⟨_,ho2,rfl⟩ noFill_tuple_add seq_tuple_add PySem.F.slot_tuple_add PySem.F.entry_tuple_add (PySem.F.args_tuple_add_2 _ _)
   (tuple_addW2 t b vs.toArray ws.toArray n n2 dd dd2 sl sl2 (by simpa using hv) (by simpa using hw) (by rw [List.size_toArray,List.size_toArray];exact hsz)) ⟨ho,ho2,?_⟩
  rw [e]
  exact h2 hw
def sIx (n d:Nat):Option Int->Nat
 |none=>d
 |some v=>if v < 0 then (v+(n:Int)).toNat else min v.toNat n
theorem sIx_none (n d:Nat):sIx n d none=d:=rfl
theorem sIx_nat (n d k:Nat):sIx n d (some (k:Int))=min k n:=by
 show (if (k:Int) < 0 then ((k:Int)+(n:Int)).toNat else min (k:Int).toNat n)=min k n
 rw [if_neg (by omega),Int.toNat_natCast]
theorem bE4 (n d:Nat) (hd:d<=n) (o:Option Int):sIx n d o<=n:=by
 cases o with
 |none=>exact hd
 |some v =>
  show (if v < 0 then (v+(n:Int)).toNat else min v.toNat n)<=n
  by_cases hv:v < 0
  ·rw [if_pos hv];omega
  ·rw [if_neg hv];exact Nat.min_le_right _ _
theorem clip_eq (v:Int) (n d:Nat):(if v < 0 then max (v+(n:Int)) 0 else min v (n:Int))=((sIx n d (some v):Nat):Int):=by
 show (if v < 0 then max (v+(n:Int)) 0 else min v (n:Int))=(((if v < 0 then (v+(n:Int)).toNat else min v.toNat n):Nat):Int)
 by_cases hv:v < 0
 ·simp only [if_pos hv];omega
 ·simp only [if_neg hv];omega
theorem yS (lo hi:Option Int) (n:Nat):Builtin.Slice.sliceAdjust lo hi 1 (n:Int)=(((sIx n 0 lo:Nat):Int),((sIx n n hi:Nat):Int)):=by
 have h1:¬ ((1:Int) < 0):=by omega
 unfold Builtin.Slice.sliceAdjust
 simp only [h1,if_false]
 refine Prod.ext ?_ ?_
 ·cases lo with
  |none=>rfl
  |some v=>exact clip_eq v n 0
 ·cases hi with
  |none=>rfl
  |some v=>exact clip_eq v n n
theorem xV (i j:Nat):Builtin.Slice.slicePlaces (i:Int) (j:Int) 1=j - i:=by
 unfold Builtin.Slice.slicePlaces
 have h1:(1:Int) > 0:=by omega
 simp only [h1,if_true,Int.ediv_one]
 split <;> omega
theorem qZ {v:Value}{o:Option Int}{Q:Option Int->Shared->Prop}(p:IsPart v o) (h:Q o s):wpAny (model prog w) A (Builtin.Slice.slicePartIndex v) Q E s:=by
 cases p with
 |none=>exact slicePart_none h
 |int i t=>exact slicePart_int h
theorem iZ {sl:Addr}{vl vu:Value}{lo hi:Option Int}{n:Nat}{Q:Int×Int×Nat->Shared->Prop}(hs:s.heap.IsSliceOf sl vl vu .none) (pl:IsPart vl lo) (pu:IsPart vu hi)
  (h:Q (((sIx n 0 lo:Nat):Int),1,sIx n n hi - sIx n 0 lo) s):wpAny (model prog w) A (Builtin.Slice.sliceApplied (.ref sl) (pure (n:Int))) Q E s:=by
 obtain ⟨os,hos,hcs,hds⟩:=id hs
 unfold Builtin.Slice.sliceApplied Builtin.Slice.sliceFields
 refine wpAny_bind (wpAny_bind (wpAny_field hos hds (x:=vl) rfl (wpAny_bind (wpAny_field hos hds (x:=vu) rfl (wpAny_bind (wpAny_field hos hds (x:= .none) rfl (wpAny_pure ?_)))))))
 refine wpAny_bind (slicePart_none ?_)
 show wpAny _ _ (if ((1:Int) == 0)=true then _ else _) _ _ s
 rw [if_neg (by decide)]
 refine wpAny_bind (qZ pl (wpAny_bind (qZ pu (wpAny_bind (wpAny_pure ?_)))))
 show wpAny _ _ (match Builtin.Slice.sliceAdjust lo hi 1 (n:Int) with | (lo,hi)=>pure (lo,(1:Int),Builtin.Slice.slicePlaces lo hi 1)) _ _ s
 rw [yS lo hi n]
 show wpAny _ _ (pure (((sIx n 0 lo:Nat):Int),(1:Int),Builtin.Slice.slicePlaces ((sIx n 0 lo:Nat):Int) ((sIx n n hi:Nat):Int) 1)) _ _ s
 rw [xV]
 exact wpAny_pure h
theorem aM6 (xs:Array Value) (i k:Nat):((List.range k).filterMap fun (m:Nat)=>xs[((i:Int)+(m:Int) * 1).toNat]?).toArray=((xs.toList.drop i).take k).toArray:=by
 have e:(fun (m:Nat)=>xs[((i:Int)+(m:Int) * 1).toNat]?)=fun m=>xs[i+m]?:=by
  funext m
  have:((i:Int)+(m:Int) * 1).toNat=i+m:=by omega
  rw [this]
 rw [e]
 have:=pick_run xs i k
 rw [List.filterMap_map] at this
 have e2:((fun x=>xs[x]?) ∘ fun x=>i+x)=fun m=>xs[i+m]?:=rfl
 rw [e2] at this
 rw [this]
theorem getItem_tuple_cut {t sl:Addr}{items:Array Value}{vl vu:Value}{lo hi:Option Int}{Q:Value->Shared->Prop}(ht:IsTup s.heap t items) (hs:s.heap.IsSliceOf sl vl vu .none) (pl:IsPart vl lo) (pu:IsPart vu hi)
  (hw:¬ (sIx items.size 0 lo=0/\sIx items.size items.size hi=items.size))
  (h:Q (.ref s.heap.objs.size) { s with heap:=s.heap.push { cls:= .type "tuple",data:= .seq ((items.toList.drop (sIx items.size 0 lo)).take (sIx items.size items.size hi - sIx items.size 0 lo)).toArray } })
  (hsz:items.size<=sizeLine):wpAny (model prog w) A (getItem (.ref t) (.ref sl)) Q E s:=by
 have htake:sizeOk (.seq ((items.toList.drop (sIx items.size 0 lo)).take (sIx items.size items.size hi - sIx items.size 0 lo)).toArray):=by
  show ((items.toList.drop (sIx items.size 0 lo)).take (sIx items.size items.size hi - sIx items.size 0 lo)).toArray.size<=sizeLine
  rw [List.size_toArray,List.length_take,List.length_drop,Array.length_toList]
  omega
 have hj:sIx items.size items.size hi<=items.size:=bE4 _ _ (Nat.le_refl _) hi
 obtain ⟨os,hos,hcs,hds⟩:=id hs
 have hTs:s.TypeIs (.ref sl) "slice":=⟨os,hos,hcs⟩
 unfold getItem
 try with_reducible refine wpAny_holding ?_
 first | refine wpAny_bind (wpAny_pure ?_) | skip
 refine wpAny_bind (wpAny_sequenceKey ht.typeIs (by decide) ?_)
 refine wpAny_bind (wpAny_callSpecial?_slot (name:=Str.ofString "__getitem__") ht.typeIs PyProof.Rows.slot_tuple_getitem
  (wpAny_call_entry PyProof.Rows.slot_tuple_getitem ht.typeIs entry_tuple_getitem ?_ (args_tuple_getitem _ _)))
 show wpAny _ _ (Builtin.Tuple.tupleItemsOf (.ref t) >>= _) _ _ s
 refine wpAny_bind (tupleItemsOf_ ht ?_)
 refine wpAny_bind (wpAny_typeOf hTs ?_)
 rw [if_pos (by decide)]
 refine wpAny_bind (iZ hs pl pu ?_)
 have hno:¬ ((((sIx items.size 0 lo:Nat):Int) == 0 && (1:Int) == 1 && (sIx items.size items.size hi - sIx items.size 0 lo) == items.size)=true):=by
  intro q
  rw [Bool.and_eq_true,Bool.and_eq_true] at q
  have q1:((sIx items.size 0 lo:Nat):Int)=0:=eq_of_beq q.1.1
  have q2:sIx items.size items.size hi - sIx items.size 0 lo=items.size:=eq_of_beq q.2
  exact hw ⟨by omega,by omega⟩
 show wpAny _ _ (if (((sIx items.size 0 lo:Nat):Int) == 0 && (1:Int) == 1 && (sIx items.size items.size hi - sIx items.size 0 lo) == items.size)=true then _ else _) _ _ s
 rw [if_neg hno,aM6]
 first
  |exact wpAny_bind (m:=Builtin.Tuple.tupleExact _) (wpAny_newObj_type (wpAny_pure ⟨_,rfl,wpAny_pure h⟩) htake)
  |exact wpAny_bind (m:=Builtin.Tuple.tupleExact _) (wpAny_newObj_type (wpAny_bind (wpAny_pure (wpAny_pure ⟨_,rfl,wpAny_pure h⟩))) htake)
  |exact wpAny_bind (wpAny_bind (m:=Builtin.Tuple.tupleExact _) (wpAny_newObj_type (wpAny_pure (wpAny_pure ⟨_,rfl,wpAny_pure h⟩)) htake))
  |exact wpAny_bind (wpAny_bind (m:=Builtin.Tuple.tupleExact _) (wpAny_newObj_type (wpAny_pure ⟨_,rfl,wpAny_pure h⟩) htake))
end
end HT
namespace L2
open PySem PySem.Spec PyProof.Rows
abbrev TO:=St->Hp->(Option Int->Hp->Prop)->Prop
def PO (X:Cx) (e:Option Expr) (t:TO):Prop :=
 ∀ (pins:List (Addr×Obj)) (s:Shared) (σ: St) (H:Hp) (Q:Option Int->Hp->Prop),bC X pins σ H s->t σ H Q ->
  wpAny (model X.prog X.w) X.A (evalPart e X.env) (fun u s'=>∃ o H',bC X pins σ H' s'/\IsPart u o/\Q o H') X.xe s
def tNoPart:TO:=fun _ H Q=>Q none H
def bN8 (t:TE):TO:=fun σ H Q=>t σ H fun x H1=>∃ i,x= .int i/\Q (some i) H1
section
variable {X:Cx}{e:Expr}{te:TE}{lo hi:Option Expr}{tl th:TO}{pos p2:Pos}
theorem bQ:PO X none tNoPart:=by
 intro pins s σ H Q I h
 rw [evalPart_none]
 exact ao ⟨none,H,I,.none,h⟩
theorem bO (h:PE X e te):PO X (some e) (bN8 te):=by
 intro pins s σ H Q I hw
 rw [evalPart_some]
 refine dJ (h pins s σ H _ I hw) ?_;rintro u s1 ⟨x,H1,I1,r1,q1⟩
 obtain ⟨i,rfl,q⟩:=q1
 obtain ⟨t,rfl⟩:=r1
 exact ⟨some i,H1,I1,.int i t,q⟩
def SlR (X:Cx) (r:V->Option Int->Option Int->Hp->VK->Prop):Prop :=
 ∀ (pins:List (Addr×Obj)) (s:Shared) (σ: St) (H:Hp) (x:V) (v vl vu:Value) (lo hi:Option Int) (sl:Addr) (Q:VK),bC X pins σ H s->bX x v->s.heap.IsSliceOf sl vl vu .none->IsPart vl lo->IsPart vu hi->r x lo hi H Q ->
  ∃ T id,typeLookup (.type T) "__getitem__"=pure (some (.builtin id))/\s.TypeIs v T/\wpAny (model X.prog X.w) X.A (getItem v (.ref sl)) (EP X pins σ Q) X.xe s
def tSl (r:V->Option Int->Option Int->Hp->VK->Prop) (te:TE) (tl th:TO):TE:=fun σ H Q=>te σ H fun x H1=>tl σ H1 fun l H2=>th σ H2 fun u H3=>r x l u H3 Q
theorem bH {r:V->Option Int->Option Int->Hp->VK->Prop}(hr:SlR X r) (he:PE X e te) (hl:PO X lo tl) (hu:PO X hi th):PE X (.Subscript e (.Slice lo hi none p2) pos) (tSl r te tl th):=by
 intro pins s σ H Q I h
 refine yn (dJ (he pins s σ H _ I h) ?_);rintro v s1 ⟨x,H1,I1,r1,q1⟩
 refine wpAny_Slice (dJ (hl pins s1 σ H1 _ I1 q1) ?_);rintro vl s2 ⟨l,H2,I2,pl,q2⟩;refine dJ (hu pins s2 σ H2 _ I2 q2) ?_;rintro vu s3 ⟨u,H3,I3,pu,q3⟩
 rw [evalPart_none]
 refine ao ?_
 have I4:bC X pins σ H3 { s3 with heap:=s3.heap.push { cls:= .type "slice",data:= .fields #[vl,vu,.none] } }:=I3.kept (t':=s3.toks) fun b ob q=>ah _ q
 obtain ⟨T,id,hT,ht,hg⟩:=hr pins { s3 with heap:=s3.heap.push { cls:= .type "slice",data:= .fields #[vl,vu,.none] } } σ H3 x v vl vu l u s3.heap.objs.size Q I4 r1 (Heap.IsSliceOf.new ..) pl pu q3
 show wpAny (model X.prog X.w) X.A (subscriptTail e (.Slice lo hi none p2) v (.ref s3.heap.objs.size)) (EP X pins σ Q) X.xe { s3 with heap:=s3.heap.push { cls:= .type "slice",data:= .fields #[vl,vu,.none] } }
 exact tail_any (ops:=[.ref s3.heap.objs.size,v]) ht hT hg (by with_unfolding_all rfl)
def fE (xs:List V) (lo hi:Option Int):List V:=(xs.drop (HT.sIx xs.length 0 lo)).take (HT.sIx xs.length xs.length hi - HT.sIx xs.length 0 lo)
theorem gK (xs:List V) (lo hi:Option Int):(fE xs lo hi).length<=xs.length:=by
 unfold fE
 rw [cv,nv]
 omega
def bV8 (K:PySem.W.Frag):V->Option Int->Option Int->Hp->VK->Prop:=fun x lo hi H Q=>∃ a xs,x= .ref a/\aQ K H a xs /\
 ¬ (HT.sIx xs.length 0 lo=0/\HT.sIx xs.length xs.length hi=xs.length)/\∀ p,H p=none->Q (.ref p) (aJ H p (.tup (fE xs lo hi)))
theorem bF7:SlR X (bV8 X.K):=by
 intro pins s σ H x v vl vu lo hi sl Q I rx hs pl pu h
 obtain ⟨a,xs,rfl,hx,hw,q⟩:=h
 cases rx
 obtain ⟨its,r,ht,hz⟩:=I.tuple hx
 have hlen:its.toArray.size=xs.length:=by rw [bj];exact r.length.symm
 refine ⟨"tuple",_,PyProof.Rows.slot_tuple_getitem.lookup,ht.typeIs,?_⟩
 refine HT.getItem_tuple_cut ht hs pl pu (by rw [hlen];exact hw) ?_ (by rw [hlen];exact hz)
 rw [hlen]
 refine ⟨.ref s.heap.objs.size,_,I.laid (t':=s.toks) (o:= .tup (fE xs lo hi)) (fun b ob q=>ah _ q) (ai _) ?_,rfl,q _ (I.hok.fresh (ai _))⟩
 exact ⟨cj (gK xs lo hi) hz,_,(r.drop (HT.sIx xs.length 0 lo)).take (HT.sIx xs.length xs.length hi - HT.sIx xs.length 0 lo),jI.new _ _⟩
def bT4 (K:PySem.W.Frag):R2:=fun x y H Q=>∃ a b xs ys,x= .ref a/\y= .ref b/\aQ K H a xs/\aQ K H b ys/\xs≠[]/\xs.length+ys.length<=sizeLine /\
 (ys=[]->Q (.ref a) H)/\(ys≠[]->∀ p,H p=none->Q (.ref p) (aJ H p (.tup (xs++ys))))
theorem bN.nil_iff {xs:List V}{us:List Value}(r:bN xs us):us=[]↔xs=[]:=by
 cases r with
 |nil=>simp
 |cons _ _=>simp
theorem aV0:jX X (binaryOp .Add) (bT4 X.K):=by
 intro pins s σ H x y v u Q I rx ry h
 obtain ⟨a,b,xs,ys,rfl,rfl,ha,hb,hx,hz,q1,q2⟩:=h
 cases rx
 cases ry
 obtain ⟨its,r1,p1,_⟩:=I.tuple ha
 obtain ⟨its2,r2,p2,_⟩:=I.tuple hb
 refine HT.cat_tup p1 p2 (fun z=>hx (r1.nil_iff.mp z)) (fun z=>⟨.ref a,H,I,rfl,q1 (r2.nil_iff.mp z)⟩) (fun z=>?_) (by rw [<- r1.length, <- r2.length];exact hz)
 refine ⟨.ref s.heap.objs.size,_,I.laid (t':=s.toks) (o:= .tup (xs++ys)) (fun b ob q=>ah _ q) (ai _) ?_,rfl,q2 (fun w=>z (r2.nil_iff.mpr w)) _ (I.hok.fresh (ai _))⟩
 exact ⟨by rw [ak];exact hz,_,r1.append r2,jI.new _ _⟩
end
def ixN (n:Nat) (i:Int):Option Nat:=if 0<=i then (if i < n then some i.toNat else none) else if -(n:Int)<=i then some (i+n).toNat else none
def oK {α: Type}(xs:List α) (i:Int):Option α:=(ixN xs.length i).bind fun j=>xs[j]?
theorem zI {n:Nat}{i:Int}{j:Nat}(h:ixN n i=some j):seqIndex? i n=some j/\j < n/\ -(n:Int)<=i/\i < n:=by
 unfold ixN at h
 by_cases h0:0<=i
 ·rw [bc h0] at h
  by_cases h1:i < n
  ·rw [bc h1] at h
   have e:i.toNat=j:=dk h
   exact ⟨by rw [yb h0 h1,e],by omega,by omega,h1⟩
  ·rw [ar h1] at h;cases h
 ·rw [ar h0] at h
  by_cases h1: -(n:Int)<=i
  ·rw [bc h1] at h
   have e:(i+n).toNat=j:=dk h
   exact ⟨by rw [wt (by omega) h1,e],by omega,h1,by omega⟩
  ·rw [ar h1] at h;cases h
theorem uQ {α: Type}{xs:List α}{i:Int}{v:α}(h:oK xs i=some v):∃ j,seqIndex? i xs.length=some j/\xs[j]?=some v/\j < xs.length/\ -(xs.length:Int)<=i/\i < xs.length:=by
 unfold oK at h
 cases e:ixN xs.length i with
 |none=>rw [e] at h;cases h
 |some j =>
  rw [e] at h
  obtain ⟨h1,h2,h3,h4⟩:=zI e
  exact ⟨j,h1,h,h2,h3,h4⟩
theorem zD {α: Type}{xs:List α}{j:Nat}{v:α}(h:xs[j]?=some v):oK xs (j:Int)=some v:=by
 have hj:j < xs.length:=(az.mp h).1
 have e:ixN xs.length (j:Int)=some j:=by
  unfold ixN
  rw [bc (by omega),bc (by omega)];simp
 unfold oK;rw [e];exact h
def aA0 (b:Expr):Prop:=∀ o i,subscripted b false o i=operate [o,i] (getItem o i)
def IxR (X:Cx) (r:R2):Prop :=
 ∀ (value slice:Expr) (pins:List (Addr×Obj)) (s:Shared) (σ: St) (H:Hp) (x y:V) (v u:Value) (Q:VK),bC X pins σ H s->bX x v->bX y u->r x y H Q ->
  subscripted slice false v u=operate [v,u] (getItem v u)->wpAny (model X.prog X.w) X.A (subscriptTail value slice v u) (EP X pins σ Q) X.xe s
def MtR (X:Cx) (id:String) (r:V->List V->Hp->VK->Prop):Prop :=
 ∀ (pins:List (Addr×Obj)) (s:Shared) (σ: St) (H:Hp) (x:V) (xs:List V) (v:Value) (us:List Value) (Q:VK),bC X pins σ H s->bX x v->bN xs us->r x xs H Q ->
  wpAny (model X.prog X.w) X.A (call (.builtin id) (v :: us)) (EP X pins σ Q) X.xe s
section
variable {X:Cx}{a b:Expr}{ta tb:TE}{pos:Pos}
theorem bU0 {r:R2}(hr:IxR X r) (ha:PE X a ta) (hb:PE X b tb) (hs:aA0 b):PE X (.Subscript a b pos) (tOp r ta tb):=by
 intro pins s σ H Q I h
 exact yn (aZ7 ha hb I h fun v u s2 x y H2 I2 rx ry q=>hr a b pins s2 σ H2 x y v u Q I2 rx ry q (hs _ _))
def bP2 (K:PySem.W.Frag):R2:=fun x y H Q=>∃ p xs i v,x= .ref p/\y= .int i/\bI K H p xs/\oK xs i=some v/\Q v H
def bL3 (K:PySem.W.Frag):R2:=fun x y H Q=>∃ p xs i v,x= .ref p/\y= .int i/\aQ K H p xs/\oK xs i=some v/\Q v H
def rIxS:R2:=fun x y H Q=>∃ z i c,x= .str z/\y= .int i/\z.length<=sizeLine/\oK z.cps.toList i=some c/\Q (.str ⟨#[c]⟩) H
theorem cY:IxR X (bP2 X.K):=by
 intro value slice pins s σ H x y v u Q I rx ry h hs
 obtain ⟨p,xs,i,z,rfl,rfl,hq,he,q⟩:=h
 cases rx
 obtain ⟨t,rfl⟩:=ry
 obtain ⟨its,r,pl,hz⟩:=I.list hq
 obtain ⟨j,h1,h2,h3,h4,h5⟩:=uQ he
 obtain ⟨w,ew,rw'⟩:=r.get h2
 have hl:=r.length
 have hn:=kJ
 have fin:EP X pins σ Q w s:=⟨z,H,I,rw',q⟩
 by_cases h0:0<=i
 ·have hj:i.toNat=j:=by
   rw [yb h0 h5] at h1
   exact dk h1
  exact item_listR pl.isList h0 (by omega) (by rw [hj];simpa using ew) fin hs
 ·have hj:(i+(its.toArray.size:Int)).toNat=j:=by
   rw [wt (by omega) h4] at h1
   rw [bj, <- hl]
   exact dk h1
  exact ue (x:=w) pl.isList.typeIs slot_list_getitem.lookup
   (ug (Q:=fun r s'=>r=w/\EP X pins σ Q r s') pl.isList (by omega) (by rw [bj] <;> omega) (by omega) (by rw [hj];simpa using ew) ⟨rfl,fin⟩) hs
theorem aI:IxR X (bL3 X.K):=by
 intro value slice pins s σ H x y v u Q I rx ry h hs
 obtain ⟨p,xs,i,z,rfl,rfl,hq,he,q⟩:=h
 cases rx
 obtain ⟨t,rfl⟩:=ry
 obtain ⟨its,r,pl,hz⟩:=I.tuple hq
 obtain ⟨j,h1,h2,h3,h4,h5⟩:=uQ he
 obtain ⟨w,ew,rw'⟩:=r.get h2
 have hl:=r.length
 have hn:=kJ
 have fin:EP X pins σ Q w s:=⟨z,H,I,rw',q⟩
 exact ue (x:=w) pl.typeIs slot_tuple_getitem.lookup
  (getItem_tuple (j:=j) (Q:=fun r s'=>r=w/\EP X pins σ Q r s') pl (by omega) (by omega) (by rw [bj, <- hl];exact h1) (by simpa using ew) ⟨rfl,fin⟩) hs
theorem yN:IxR X rIxS:=by
 intro value slice pins s σ H x y v u Q I rx ry h hs
 obtain ⟨z,i,c,rfl,rfl,hz,he,q⟩:=h
 obtain ⟨t,rfl⟩:=rx
 obtain ⟨t',rfl⟩:=ry
 obtain ⟨j,h1,h2,h3,h4,h5⟩:=uQ he
 have hl:z.cps.toList.length=z.length:=by simp [Str.length]
 rw [hl] at h1 h4 h5
 have hn:=kJ
 exact tail_any (yo s z t) slot_str_getitem.lookup (getItem_str (c:=c) (by
  have e1:decide (i < -(2 ^ 63:Int))=false:=au (by omega)
  have e2:decide (i ≥ 2 ^ 63)=false:=au (by omega)
  rw [e1,e2,Bool.or_false]) (by rw [h1];simpa using h2) ⟨.str ⟨#[c]⟩,H,I.tok _,⟨_,rfl⟩,q⟩) hs
theorem yR (its:List Value) (n j:Nat) (u:Value):Obj.mapSeq (·.setIfInBounds j u) { cls:= .type "list",data:= .seq its.toArray n }={ cls:= .type "list",data:= .seq (its.set j u).toArray n }:=by
 simp [Obj.mapSeq]
theorem bC.lst {pins:List (Addr×Obj)}{σ: St}{H:Hp}{s:Shared}{p:Addr}{xs:List V}(I:bC X pins σ H s) (h:H p=some (.lst xs)) :
  ∃ (its:List Value) (n:Nat),bN xs its/\s.heap.get? p=some { cls:= .type "list",data:= .seq its.toArray n }/\xs.length<=sizeLine:=by
 obtain ⟨z,its,n,r,e⟩:=I.hok p _ h
 exact ⟨its,n,r,e,z⟩
theorem bC.lstUpd {pins:List (Addr×Obj)}{σ: St}{H:Hp}{s:Shared}{p:Addr}{xs ys:List V}{its its':List Value}{n n':Nat}{f:Obj->Obj}(I:bC X pins σ H s) (h:H p=some (.lst xs))
  (ho:s.heap.get? p=some { cls:= .type "list",data:= .seq its.toArray n }) (hf:f { cls:= .type "list",data:= .seq its.toArray n }={ cls:= .type "list",data:= .seq its'.toArray n' }) (r:bN ys its') (hz:ys.length<=sizeLine) (t:Nat) :
  bC X pins σ (aJ H p (.lst ys)) { s with heap:=s.heap.update p f,toks:=t }:=by
 have e:(s.heap.update p f).get? p=some { cls:= .type "list",data:= .seq its'.toArray n' }:=by
  rw [eo f ho (by rw [hf] <;> rfl),hf]
 refine I.write (x:=p) (e:=p) (by rw [h];trivial) (.inl rfl) (fun b u hb q=>(fh _ _ (Ne.symm hb)).trans q) ⟨_,e⟩ ?_
 exact ⟨hz,its',n',r,e⟩
def rSetL:V->V->V->Hp->(Hp->Prop)->Prop:=fun o i v H Q=>∃ p xs k j,o= .ref p/\i= .int k/\H p=some (.lst xs)/\ixN xs.length k=some j/\Q (aJ H p (.lst (xs.set j v)))
theorem aM1:bJ9 X rSetL:=by
 intro pins s σ H o i v ov iv u Q I ro ri rv h
 obtain ⟨p,xs,k,j,rfl,rfl,hp,hj,q⟩:=h
 cases ro
 obtain ⟨t,rfl⟩:=ri
 obtain ⟨its,n,r,ho,hz⟩:=I.lst hp
 obtain ⟨h1,h2,h3,h4⟩:=zI hj
 have hl:=r.length
 have hn:=kJ
 have I':bC X pins σ (aJ H p (.lst (xs.set j v))) { s with heap:=s.heap.update p (Obj.mapSeq (·.setIfInBounds j u)) } :=
  I.lstUpd hp ho (yR its n j u) (r.set rv j) (by rw [List.length_set];exact hz) s.toks
 by_cases h0:0<=k
 ·have hk:k.toNat=j:=by
   rw [yb h0 h4] at h1
   exact dk h1
  exact PySem.W.ki_setAt ho h0 (by omega) (by rw [bj, <- hl];exact h4) (by rw [hk];exact ⟨_,I',q⟩)
 ·have hk:(k+(its.toArray.size:Int)).toNat=j:=by
   rw [wt (by omega) h3] at h1
   rw [bj, <- hl]
   exact dk h1
  exact PySem.W.ki_setBack ho (by omega) (by rw [bj, <- hl];exact h3) (by omega) (by rw [hk];exact ⟨_,I',q⟩)
theorem uA (lo hi:Option Int) (n:Nat):(sliceBounds lo hi none n).1=((HT.sIx n 0 lo:Nat):Int)/\(sliceBounds lo hi none n).2.1=((HT.sIx n n hi:Nat):Int)/\(sliceBounds lo hi none n).2.2=1:=by
 refine ⟨?_,?_,rfl⟩
 ·cases lo with
  |none=>simp [sliceBounds,HT.sIx]
  |some i =>
   simp only [sliceBounds,HT.sIx,Option.getD_none,show (1:Int) > 0 by decide,if_true]
   by_cases h:i < 0
   ·simp only [h,if_true] <;> omega
   ·simp only [h,if_false] <;> omega
 ·cases hi with
  |none=>simp [sliceBounds,HT.sIx]
  |some i =>
   simp only [sliceBounds,HT.sIx,Option.getD_none,show (1:Int) > 0 by decide,if_true]
   by_cases h:i < 0
   ·simp only [h,if_true] <;> omega
   ·simp only [h,if_false] <;> omega
theorem rO (its:List Value) (lo hi:Option Int):slicePick its.toArray lo hi none=((its.drop (HT.sIx its.length 0 lo)).take (HT.sIx its.length its.length hi - HT.sIx its.length 0 lo)).toArray:=by
 obtain ⟨h1,h2,h3⟩:=uA lo hi its.toArray.size
 unfold slicePick
 rw [h1,h2,h3]
 simp only [sliceRange_one,pick_run,List.size_toArray] <;> rfl
def bX9 (K:PySem.W.Frag):V->Option Int->Option Int->Hp->VK->Prop:=fun x lo hi H Q=>∃ a xs,x= .ref a/\bI K H a xs/\∀ p,H p=none->Q (.ref p) (aJ H p (.lst (fE xs lo hi)))
theorem tU:SlR X (bX9 X.K):=by
 intro pins s σ H x v vl vu lo hi sl Q I rx hs pl pu h
 obtain ⟨a,xs,rfl,hx,q⟩:=h
 cases rx
 obtain ⟨its,r,ht,hz⟩:=I.list hx
 have hlen:=r.length
 refine ⟨"list",_,slot_list_getitem.lookup,ht.isList.typeIs,?_⟩
 refine wpAny_getItem_list_slice ht.isList hs pl pu .none (by simp) ?_ (by rw [List.size_toArray] <;> omega)
 rw [rO, <- hlen]
 refine ⟨.ref s.heap.objs.size,_,I.laid (t':=s.toks) (o:= .lst (fE xs lo hi)) (fun b ob q=>ah _ q) (ai _) ?_,rfl,q _ (I.hok.fresh (ai _))⟩
 exact ⟨cj (gK xs lo hi) hz,_,0,(r.drop (HT.sIx xs.length 0 lo)).take (HT.sIx xs.length xs.length hi - HT.sIx xs.length 0 lo),br _ rfl⟩
def lV:V->Bool
 |.non=>true
 |.bl _=>true
 |.int _=>true
 |.str _=>true
 |_=>false
def eqV:V->V->Bool
 |.non,.non=>true
 |.bl a,.bl b=>a == b
 |.bl a,.int b=>(if a then 1 else 0) == b
 |.int a,.bl b=>a == (if b then 1 else 0)
 |.int a,.int b=>a == b
 |.str a,.str b=>a == b
 |_,_=>false
theorem bH5 {A:Around}{s:Shared}{y x:V}{u v:Value}(ry:bX y u) (rx:bX x v) (fy:lV y=true) (fx:lV x=true):SeqAt.EqAt A s u v (eqV y x):=by
 cases y with
 |non =>
  cases ry
  cases x with
  |non=>cases rx;exact SeqAt.EqAt.same _
  |bl b=>cases rx;exact SeqAt.EqAt.none_bool b
  |int b=>obtain ⟨t,rfl⟩:=rx;exact SeqAt.EqAt.none_int b t
  |str b=>obtain ⟨t,rfl⟩:=rx;exact SeqAt.EqAt.none_str b t
  |_=>exact absurd (show false=true from fx) bi
 |bl a =>
  cases ry
  cases x with
  |non=>cases rx;exact SeqAt.EqAt.bool_none a
  |bl b=>cases rx;exact SeqAt.EqAt.bool_bool a b
  |int b=>obtain ⟨t,rfl⟩:=rx;exact SeqAt.EqAt.bool_int a b t
  |str b=>obtain ⟨t,rfl⟩:=rx;exact SeqAt.EqAt.bool_str a b t
  |_=>exact absurd (show false=true from fx) bi
 |int a =>
  obtain ⟨t',rfl⟩:=ry
  cases x with
  |non=>cases rx;exact SeqAt.EqAt.int_none a t'
  |bl b=>cases rx;exact SeqAt.EqAt.int_bool a t' b
  |int b=>obtain ⟨t,rfl⟩:=rx;exact wu a t' b t
  |str b=>obtain ⟨t,rfl⟩:=rx;exact wg a t' b t
  |_=>exact absurd (show false=true from fx) bi
 |str a =>
  obtain ⟨t',rfl⟩:=ry
  cases x with
  |non=>cases rx;exact SeqAt.EqAt.str_none a t'
  |bl b=>cases rx;exact SeqAt.EqAt.str_bool a t' b
  |int b=>obtain ⟨t,rfl⟩:=rx;exact wj a t' b t
  |str b=>obtain ⟨t,rfl⟩:=rx;exact SeqAt.EqAt.str_str a t' b t
  |_=>exact absurd (show false=true from fx) bi
 |_=>exact absurd (show false=true from fy) bi
def yP (x:V) (u:Value):Bool:=match u with
 |.none=>eqV .non x
 |.bool b=>eqV (.bl b) x
 |.int i _=>eqV (.int i) x
 |.str z _=>eqV (.str z) x
 |_=>false
theorem aL9 {x y:V}{u:Value}(r:bX y u) (f:lV y=true):yP x u=eqV y x:=by
 cases y with
 |non=>cases r;rfl
 |bl b=>cases r;rfl
 |int i=>obtain ⟨t,rfl⟩:=r;rfl
 |str z=>obtain ⟨t,rfl⟩:=r;rfl
 |_=>exact absurd (show false=true from f) bi
theorem nM {x:V}:∀ {xs:List V}{us:List Value},bN xs us->xs.all lV=true->us.any (yP x)=xs.any fun y=>eqV y x
 |_,_,.nil,_=>rfl
 |y :: xs,u :: us,.cons r t,f=>by
  rw [List.all_cons,kj] at f
  rw [ko,ko,aL9 r f.1,nM t f.2]
theorem kF {A:Around}{s:Shared}{x:V}{v:Value}(rx:bX x v) (fx:lV x=true):∀ {xs:List V}{us:List Value},bN xs us->xs.all lV=true->∀ u∈us,SeqAt.EqAt A s u v (yP x u)
 |_,_,.nil,_=>fun u hu=>by cases hu
 |y :: xs,u :: us,.cons r t,f=>fun u' hu=>by
  rw [List.all_cons,kj] at f
  rcases cq.mp hu with rfl | hu
  ·rw [aL9 r f.1];exact bH5 r rx f.1 fx
  ·exact kF rx fx t f.2 u' hu
def oM (x:V) (xs:List V):Bool:=xs.any fun y=>eqV y x
def rIn (K:PySem.W.Frag) (neg:Bool):R2:=fun x y H Q=>∃ p xs,y= .ref p/\(bI K H p xs\/aQ K H p xs)/\lV x=true/\xs.all lV=true/\Q (.bl (if neg then !oM x xs else oM x xs)) H
theorem cU:jX X (compareOp .In) (rIn X.K false):=by
 intro pins s σ H x y v u Q I rx ry h
 obtain ⟨p,xs,rfl,hq,fx,fs,q⟩:=h
 cases ry
 rcases hq with hq | hq
 ·obtain ⟨its,r,pl,hz⟩:=I.list hq
  refine SeqAt.in_listAt (yP x) pl.isList (fun w hw=>kF rx fx r fs w (by simpa using hw)) ⟨.bl _,H,I,rfl,?_⟩
  rw [show its.toArray.any (yP x)=its.any (yP x) by simp,nM r fs]
  exact q
 ·obtain ⟨its,r,pl,hz⟩:=I.tuple hq
  refine SeqAt.in_tupleAt (yP x) pl (fun w hw=>kF rx fx r fs w (by simpa using hw)) ⟨.bl _,H,I,rfl,?_⟩
  rw [show its.toArray.any (yP x)=its.any (yP x) by simp,nM r fs]
  exact q
theorem nJ:jX X (compareOp .NotIn) (rIn X.K true):=by
 intro pins s σ H x y v u Q I rx ry h
 obtain ⟨p,xs,rfl,hq,fx,fs,q⟩:=h
 cases ry
 rcases hq with hq | hq
 ·obtain ⟨its,r,pl,hz⟩:=I.list hq
  refine SeqAt.notIn_listAt (yP x) pl.isList (fun w hw=>kF rx fx r fs w (by simpa using hw)) ⟨.bl _,H,I,rfl,?_⟩
  rw [show its.toArray.any (yP x)=its.any (yP x) by simp,nM r fs]
  exact q
 ·obtain ⟨its,r,pl,hz⟩:=I.tuple hq
  refine SeqAt.notIn_tupleAt (yP x) pl (fun w hw=>kF rx fx r fs w (by simpa using hw)) ⟨.bl _,H,I,rfl,?_⟩
  rw [show its.toArray.any (yP x)=its.any (yP x) by simp,nM r fs]
  exact q
theorem aW:eM X (.builtin "len") (fun xs H Q=>∃ p ys,xs=[.ref p]/\(bI X.K H p ys\/aQ X.K H p ys)/\Q (.int ys.length) H):=by
 intro pins s σ H xs us Q I r h
 obtain ⟨p,ys,rfl,hq,q⟩:=h
 obtain ⟨u,rfl,rx⟩:=iN r
 cases rx
 have hn:=kJ
 rcases hq with hq | hq
 ·obtain ⟨its,r',pl,hz⟩:=I.list hq
  have hlen:=r'.length
  exact Calls.call_len_list pl.isList (by simp only [List.size_toArray] <;> omega) ⟨.int ys.length,H,I.tok _,⟨s.toks+1,by rw [bj,hlen]⟩,q⟩
 ·obtain ⟨its,r',pl,hz⟩:=I.tuple hq
  have hlen:=r'.length
  exact len_tuple pl (by simp only [List.size_toArray] <;> omega) ⟨.int ys.length,H,I.tok _,⟨s.toks+1,by rw [bj,hlen]⟩,q⟩
theorem uF:eM X (.builtin "len") (fun xs H Q=>∃ z,xs=[.str z]/\z.length<=sizeLine/\Q (.int z.length) H):=by
 intro pins s σ H xs us Q I r h
 obtain ⟨z,rfl,hz,q⟩:=h
 obtain ⟨u,rfl,t,rfl⟩:=iN r
 have hn:=kJ
 exact len_str (by omega) ⟨.int z.length,H,I.tok _,⟨_,rfl⟩,q⟩
theorem cX:eM X (.type "tuple") (fun xs H Q=>∃ p ys,xs=[.ref p]/\((bI X.K H p ys/\∀ l,H l=none->Q (.ref l) (aJ H l (.tup ys)))\/(aQ X.K H p ys/\Q (.ref p) H))):=by
 intro pins s σ H xs us Q I r h
 obtain ⟨p,ys,rfl,h⟩:=h
 obtain ⟨u,rfl,rx⟩:=iN r
 cases rx
 rcases h with ⟨hq,q⟩ | ⟨hq,q⟩
 ·obtain ⟨its,r',pl,hz⟩:=I.list hq
  have hlen:=r'.length
  refine call_tuple_list pl.isList (fun h' kp=>?_) (by simp only [List.size_toArray] <;> omega)
  have I1:bC X pins σ H { s with heap:=h' }:=I.kept (t':=s.toks) kp
  have I2:bC X pins σ (aJ H h'.objs.size (.tup ys)) { s with heap:=h'.push { cls:= .type "tuple",data:= .seq its.toArray } } :=
   I1.laid (t':=s.toks) (fun b o e=>ah _ e) (ai _) (show cK X.prog X.w _ _ _ (.tup ys) from ⟨hz,its,r',jI.new _ _⟩)
  exact ⟨.ref h'.objs.size,_,I2,rfl,q _ (I1.hok.fresh (ai _))⟩
 ·obtain ⟨its,r',pl,hz⟩:=I.tuple hq
  exact call_tuple_same pl ⟨.ref p,H,I,rfl,q⟩
def tyV (K:PySem.W.Frag) (T:String) (x:V) (H:Hp):Prop:=match x with
 |.str _=>T="str"
 |.int _=>T="int"
 |.ref p=>(T="list"/\∃ xs,bI K H p xs)\/(T="tuple"/\∃ o,K.lookup p=some o/\o.cls= .type "tuple"/\o.dict=none) \/
   (T="dict"/\((∃ kvs,H p=some (.dK kvs))\/∃ kvs,H p=some (.dT kvs)))\/(T="set"/\∃ S n,H p=some (.set S n))
 |_=>False
theorem aN1 {pins:List (Addr×Obj)}{σ: St}{H:Hp}{s:Shared}{T:String}{x:V}{v:Value}(I:bC X pins σ H s) (r:bX x v) (ty:tyV X.K T x H) :
  s.TypeIs v T/\∀ a,v= .ref a->∃ ob,s.heap.get? a=some ob/\ob.dict=none:=by
 cases x with
 |str z =>
  obtain ⟨t,rfl⟩:=r
  cases (show T="str" from ty)
  exact ⟨yo s z t,fun _ e=>nomatch e⟩
 |int i =>
  obtain ⟨t,rfl⟩:=r
  cases (show T="int" from ty)
  exact ⟨rg s i t,fun _ e=>nomatch e⟩
 |ref p =>
  cases r
  rcases ty with ⟨rfl,xs,hq⟩ | ⟨rfl,o,hk,hc,hd⟩ | ⟨rfl,hk⟩ | ⟨rfl,S,n,hk⟩
  ·obtain ⟨its,_,pl,_⟩:=I.list hq
   refine ⟨pl.isList.typeIs,fun a e=>?_⟩
   cases e
   obtain ⟨o,n,e,c,hd,_⟩:=pl
   exact ⟨o,e,hd⟩
  ·refine ⟨⟨o,I.kIn p o hk,hc⟩,fun a e=>?_⟩
   cases e
   exact ⟨o,I.kIn _ o hk,hd⟩
  ·have z:∃ o,s.heap.get? p=some o/\o.ExactDict:=by
    rcases hk with ⟨kvs,hk⟩ | ⟨kvs,hk⟩
    ·obtain ⟨_,_,_,_,o,_,_,e,ex,_⟩:=I.hok p _ hk
     exact ⟨o,e,ex⟩
    ·obtain ⟨_,_,_,_,o,_,_,e,ex,_⟩:=I.hok p _ hk
     exact ⟨o,e,ex⟩
   obtain ⟨o,e,ex⟩:=z
   refine ⟨⟨o,e,ex.1⟩,fun a e2=>?_⟩
   cases e2
   exact ⟨o,e,ex.2.1⟩
  ·obtain ⟨o,_,_,_,e,ex,_⟩:=I.hok p _ hk
   refine ⟨⟨o,e,ex.1⟩,fun a e2=>?_⟩
   cases e2
   exact ⟨o,e,ex.2.1⟩
 |_=>exact False.elim ty
def bY7 (K:PySem.W.Frag) (T:String) (r:V->List V->Hp->VK->Prop) (to:TE):TE:=fun σ H Q=>to σ H fun x H1=>tyV K T x H1/\r x [] H1 Q
def tBM (K:PySem.W.Frag) (T:String) (r:V->List V->Hp->VK->Prop) (to:TE) (t:TA):TE:=fun σ H Q=>to σ H fun x H1=>tyV K T x H1/\t σ H1 fun xs H2=>r x xs H2 Q
variable {o e:Expr}{es:List Expr}{to:TE}{t:TA}{name:Str}{apos cpos:Pos}{T id:String}{r:V->List V->Hp->VK->Prop}
theorem kM (pa:PlainAttrs T) (slot:Slot T name id) (hty:typeOf (.builtin id)=pure (.type "method_descriptor")) (hm:MtR X id r) (ho:PE X o to)
  (hbase:autoParam (attributeBase o name X.env (eval o X.env)=eval o X.env) Rq0._auto_1) (hline:autoParam ((apos.endLine == cpos.line)=true) Rq0._auto_1):PE X (.Call (.Attribute o name apos) [] [] cpos) (bY7 X.K T r to):=by
 intro pins s σ H Q I h
 refine wpAny_Call_method0_late hbase hline (dJ (ho pins s σ H _ I h) ?_);rintro v s1 ⟨x,H1,I1,r1,ty,q1⟩
 obtain ⟨h1,h2⟩:=aN1 I1 r1 ty
 exact ⟨T,id,pa,slot,hty,h1,h2,uh rfl (PySem.evalArgs_none (hm pins s1 σ H1 x [] v [] Q I1 r1 .nil q1))⟩
theorem dG (pa:PlainAttrs T) (slot:Slot T name id) (hty:typeOf (.builtin id)=pure (.type "method_descriptor")) (hm:MtR X id r) (ho:PE X o to) (ha:PA X (e :: es) t)
  (hbase:autoParam (attributeBase o name X.env (eval o X.env)=eval o X.env) Rq0._auto_1)
  (hfew:autoParam (((backTo cpos (starEach (e :: es) X.env)).all (fun x=> !x.1) && (backToKw cpos (keywordEach [] X.env)).all (fun x=>x.1.isSome)
   && decide ((e :: es).length+([]:List Keyword).length+(if ([]:List Keyword).isEmpty then 0 else 1) < 30))=true) Rq0._auto_1)
  (hline:autoParam ((apos.endLine == cpos.line)=true) Rq0._auto_1) (hs:autoParam (starEach (e :: es) X.env=(false,eval e X.env) :: starEach es X.env) Rq0._auto_1) (hplain:autoParam ((backTo cpos (starEach es X.env)).any (·.1)=false) Rq0._auto_1) :
  PE X (.Call (.Attribute o name apos) (e :: es) [] cpos) (tBM X.K T r to t):=by
 intro pins s σ H Q I h
 refine wpAny_Call_method_late hbase hfew hline rfl (dJ (ho pins s σ H _ I h) ?_);rintro v s1 ⟨x,H1,I1,r1,ty,q1⟩
 obtain ⟨h1,h2⟩:=aN1 I1 r1 ty
 refine ⟨T,id,pa,slot,hty,h1,h2,?_⟩
 have hA:=ha cpos pins s1 σ H1 _ I1 q1
 rw [hs] at hA ⊢
 refine uh (by show (false || (backTo cpos (starEach es X.env)).any (·.1))=false;rw [hplain] <;> rfl) (Calls.evalArgs_plain ?_)
 refine dJ hA ?_;rintro us s2 ⟨vs,H2,I2,r2,q2⟩;exact hm pins s2 σ H2 x vs v us Q I2 r1 r2 q2
end
def MtM (X:Cx) (id:String) (r:V->List V->Hp->VK->Prop):Prop :=
 ∀ (pins:List (Addr×Obj)) (s:Shared) (σ: St) (H:Hp) (x:V) (xs:List V) (v:Value) (us:List Value) (Q:VK),bC X pins σ H s->bX x v->bN xs us->r x xs H Q ->
  wpAny (model X.prog X.w) X.A (call (.builtin id) (v :: us)) (EP X pins σ Q) X.xe s
theorem bN.one:∀ {x:V}{us:List Value},bN [x] us->∃ u,us=[u]/\bX x u
 |_,_,.cons r .nil=>⟨_,rfl,r⟩
theorem bN.zero:∀ {us:List Value},bN [] us->us=[]
 |_,.nil=>rfl
theorem bN.dropLast {xs:List V}{us:List Value}(h:bN xs us):bN xs.dropLast us.dropLast:=by
 induction h with
 |nil=>exact .nil
 |cons r t ih =>
  cases t with
  |nil=>exact .nil
  |cons q t'=>exact .cons r ih
theorem bN.eraseIdx:∀ {xs:List V}{us:List Value}(i:Nat),bN xs us->bN (xs.eraseIdx i) (us.eraseIdx i)
 |_,_,_,.nil=> .nil
 |_,_,0,.cons _ t=>t
 |_,_,i+1,.cons r t=> .cons r (bN.eraseIdx i t)
theorem bN.reverse {xs:List V}{us:List Value}(h:bN xs us):bN xs.reverse us.reverse:=by
 induction h with
 |nil=>exact .nil
 |cons r t ih=>rw [dm,dm];exact bN.append ih (.cons r .nil)
theorem bN.rep {xs:List V}{us:List Value}(h:bN xs us):∀ k:Nat,bN (List.replicate k xs).flatten (List.replicate k us).flatten
 |0=> .nil
 |k+1=>by
  rw [ig,ig,jt,jt]
  exact bN.append h (bN.rep h k)
theorem yM {α: Type}(l:List α):l.eraseIdx (l.length - 1)=l.dropLast:=by
 induction l with
 |nil=>rfl
 |cons a r ih =>
  cases r with
  |nil=>rfl
  |cons b r =>
   have e:(a :: b :: r).length - 1=((b :: r).length - 1)+1:=by
    rfl
   rw [e,List.eraseIdx_cons_succ,ih]
   all_goals rfl
theorem rR {α: Type}:∀ (l:List α) (i:Nat),(l.eraseIdx i).length<=l.length
 |[],_=>ai _
 |_ :: _,0=>df _
 |_ :: r,i+1=>Nat.succ_le_succ (rR r i)
theorem nV (its:List Value):∀ (k:Nat) (acc:List Value),
  List.foldl (fun x1 x2=>x1++x2) acc.toArray (List.replicate k its.toArray)=(acc++(List.replicate k its).flatten).toArray
 |0,acc=>by simp
 |k+1,acc=>by
  have e:acc.toArray++its.toArray=(acc++its).toArray:=by simp
  have e2:(acc++its)++(List.replicate k its).flatten=acc++(List.replicate (k+1) its).flatten:=by
   rw [ig,jt,mo]
  rw [<- e2, <- nV its k (acc++its), <- e,ig,io]
section
variable {X:Cx}{pins:List (Addr×Obj)}{σ: St}{H:Hp}{s:Shared}{l b:Addr}{xs ys zs:List V}
theorem bC.lset {its its':List Value}{n:Nat}{f:Array Value->Array Value}{t':Nat}(I:bC X pins σ H s) (hH:H l=some (.lst xs))
  (e:s.heap.get? l=some { cls:= .type "list",data:= .seq its.toArray n }) (hf:f its.toArray=its'.toArray) (hv:bN ys its') (hz:ys.length<=sizeLine) :
  bC X pins σ (aJ H l (.lst ys)) { s with heap:=s.heap.update l (Obj.mapSeq f),toks:=t' }:=by
 have q:=PySem.IsL.update e f
 rw [hf] at q
 refine I.write (x:=l) (e:=l) (by rw [hH];exact trivial) (.inl rfl) (fun b' u hb hu=>(fh s.heap (Obj.mapSeq f) (Ne.symm hb)).trans hu) ⟨_,q⟩ ?_
 exact ⟨hz,its',_,hv,q⟩
theorem bC.lnew {its:List Value}{t':Nat}(I:bC X pins σ H s) (hv:bN ys its) (hz:ys.length<=sizeLine) :
  bC X pins σ (aJ H s.heap.objs.size (.lst ys)) { s with heap:=s.heap.push { cls:= .type "list",data:= .seq its.toArray },toks:=t' } :=
 I.laid (fun _ _ q=>ah _ q) (ai _) ⟨hz,its,0,hv,br _ rfl⟩
theorem bC.fresh (I:bC X pins σ H s):H s.heap.objs.size=none:=I.hok.fresh (ai _)
theorem bC.lstM (I:bC X pins σ H s) (hH:H l=some (.lst xs)):xs.length<=sizeLine/\∃ (its:List Value) (n:Nat),bN xs its/\xs.length=its.length/\s.heap.get? l=some { cls:= .type "list",data:= .seq its.toArray n }:=by
 obtain ⟨z,its,n,r,e⟩:=I.hok l _ hH
 exact ⟨z,its,n,r,r.length,e⟩
theorem vW {n:Nat}(h:n<=sizeLine):Builtin.List.listTooLong n=false:=by
 unfold Builtin.List.listTooLong
 exact au (by omega)
end
section
variable {X:Cx}
def rAppend:V->List V->Hp->VK->Prop:=fun x vs H Q=>∃ l xs y,x= .ref l/\vs=[y]/\H l=some (.lst xs)/\xs.length < sizeLine/\Q .non (aJ H l (.lst (xs++[y])))
theorem bM:MtM X "list.append" rAppend:=by
 intro pins s σ H x vs v us Q I rx rv h
 obtain ⟨l,xs,y,rfl,rfl,hH,hz,q⟩:=h
 cases rx
 obtain ⟨u,rfl,ru⟩:=rv.one
 obtain ⟨z,its,n,r,hl,e⟩:=I.lstM hH
 refine jd F.slot_list_append ⟨_,e,rfl⟩ F.entry_list_append (F.args_list_append_2 _ _) (PySem.list_append l its.toArray n u (by rw [bj];omega)) ⟨e,?_⟩
 refine ⟨.non,_,I.lset (its':=its++[u]) hH e (by simp) (r.append (.cons ru .nil)) ?_,rfl,q⟩
 rw [ak,uq]
 omega
def rExtend:V->List V->Hp->VK->Prop:=fun x vs H Q=>∃ l b xs zs,x= .ref l/\vs=[.ref b]/\H l=some (.lst xs)/\H b=some (.lst zs)/\xs.length+zs.length<=sizeLine/\Q .non (aJ H l (.lst (xs++zs)))
theorem gE:MtM X "list.extend" rExtend:=by
 intro pins s σ H x vs v us Q I rx rv h
 obtain ⟨l,b,xs,zs,rfl,rfl,hH,hB,hz,q⟩:=h
 cases rx
 obtain ⟨u,rfl,ru⟩:=rv.one
 cases ru
 obtain ⟨z,its,n,r,hl,e⟩:=I.lstM hH
 obtain ⟨z2,its2,n2,r2,hl2,e2⟩:=I.lstM hB
 have hsz:its.toArray.size+its2.toArray.size<=sizeLine:=by rw [bj,bj];omega
 have hlong:¬ (!its.toArray.isEmpty && Builtin.List.listTooLong (its.toArray.size+its2.toArray.size))=true:=by
  rw [vW hsz,Bool.and_false]
  exact bi
 refine jd F.slot_list_extend ⟨_,e,rfl⟩ F.entry_list_extend (F.args_list_extend_2 _ _)
  (AutoSeq1.list_extend_list_list_0 l its.toArray n b its2.toArray n2 hlong (by rw [bj];omega) (by omega)) ⟨e,e2,?_⟩
 refine ⟨.non,_,I.lset (its':=its++its2) hH e (by simp) (r.append r2) ?_,rfl,q⟩
 rw [ak]
 omega
def rPop:V->List V->Hp->VK->Prop:=fun x vs H Q=>∃ l xs y,x= .ref l/\vs=[]/\H l=some (.lst xs)/\xs[xs.length - 1]?=some y/\Q y (aJ H l (.lst xs.dropLast))
theorem kE:MtM X "list.pop" rPop:=by
 intro pins s σ H x vs v us Q I rx rv h
 obtain ⟨l,xs,y,rfl,rfl,hH,hy,q⟩:=h
 cases rx
 have hus:=rv.zero
 subst hus
 obtain ⟨z,its,n,r,hl,e⟩:=I.lstM hH
 obtain ⟨u,hu,ru⟩:=r.get hy
 have hy':its.toArray[its.toArray.size - 1]?=some u:=by
  show its.toArray[its.length - 1]?=some u
  rw [<- jx, <- hl]
  exact hu
 refine jd F.slot_list_pop ⟨_,e,rfl⟩ yc (F.args_list_pop_1 _) (MeetsSeq.list_pop_last l its.toArray n u hy' (by rw [bj];omega)) ⟨e,?_⟩
 refine ⟨y,_,I.lset (its':=its.dropLast) hH e ?_ r.dropLast ?_,ru,q⟩
 ·show its.toArray.eraseIdxIfInBounds (its.toArray.size - 1)=its.dropLast.toArray
  rw [bj,oh,yM]
 ·rw [vi]
  omega
def rPopAt:V->List V->Hp->VK->Prop:=fun x vs H Q=>∃ l xs i k y,x= .ref l/\vs=[.int i]/\H l=some (.lst xs)/\ -(2 ^ 63)<=i/\i < 2 ^ 63/\seqIndex? i xs.length=some k/\xs[k]?=some y/\Q y (aJ H l (.lst (xs.eraseIdx k)))
theorem aN4:MtM X "list.pop" rPopAt:=by
 intro pins s σ H x vs v us Q I rx rv h
 obtain ⟨l,xs,i,k,y,rfl,rfl,hH,h1,h2,hk,hy,q⟩:=h
 cases rx
 obtain ⟨u,rfl,ru⟩:=rv.one
 obtain ⟨t,rfl⟩:=ru
 obtain ⟨z,its,n,r,hl,e⟩:=I.lstM hH
 obtain ⟨w,hw,rw'⟩:=r.get hy
 refine jd F.slot_list_pop ⟨_,e,rfl⟩ yc (F.args_list_pop_2 _ _)
  (MeetsSeq.list_pop_at l its.toArray n i t k w (fitsIndex_both h1 h2) (by rw [bj, <- hl];exact hk) (by rw [<- jx];exact hw) (by rw [bj];omega)) ⟨e,?_⟩
 refine ⟨y,_,I.lset (its':=its.eraseIdx k) hH e ?_ (r.eraseIdx k) ?_,rw',q⟩
 ·show its.toArray.eraseIdxIfInBounds k=(its.eraseIdx k).toArray
  rw [oh]
 ·have:=rR xs k
  omega
def rCat:R2:=fun x y H Q=>∃ l b xs zs,x= .ref l/\y= .ref b/\H l=some (.lst xs)/\H b=some (.lst zs)/\xs.length+zs.length<=sizeLine/\∀ p,H p=none->Q (.ref p) (aJ H p (.lst (xs++zs)))
theorem fR:jX X (binaryOp .Add) rCat:=by
 intro pins s σ H x y v u Q I rx ry h
 obtain ⟨l,b,xs,zs,rfl,rfl,hH,hB,hz,q⟩:=h
 cases rx
 cases ry
 obtain ⟨z,its,n,r,hl,e⟩:=I.lstM hH
 obtain ⟨z2,its2,n2,r2,hl2,e2⟩:=I.lstM hB
 refine PySem.P.add_list e e2 ?_ (by rw [bj,bj];omega)
 have ea:its.toArray++its2.toArray=(its++its2).toArray:=by simp
 rw [ea]
 exact ⟨.ref _,_,I.lnew (t':=s.toks) (r.append r2) (by rw [ak];omega),rfl,q _ I.fresh⟩
def rRep:R2:=fun x y H Q=>∃ l k xs,x= .ref l/\y= .int k/\H l=some (.lst xs)/\ -(2 ^ 63)<=k/\k < 2 ^ 63/\xs.length * k.toNat<=sizeLine /\
 ∀ p,H p=none->Q (.ref p) (aJ H p (.lst (List.replicate k.toNat xs).flatten))
theorem aP9 {α: Type}(xs:List α) (k:Nat):(List.replicate k xs).flatten.length=k * xs.length:=by
 induction k with
 |zero=>simp
 |succ k ih=>rw [ig,jt,ak,ih,Nat.succ_mul,Nat.add_comm]
theorem bJ5:jX X (binaryOp .Mult) rRep:=by
 intro pins s σ H x y v u Q I rx ry h
 obtain ⟨l,k,xs,rfl,rfl,hH,h1,h2,hz,q⟩:=h
 cases rx
 obtain ⟨t,rfl⟩:=ry
 obtain ⟨z,its,n,r,hl,e⟩:=I.lstM hH
 have hlen:its.toArray.size * k.toNat<=sizeLine:=by rw [bj, <- hl];exact hz
 have hcap:¬ its.toArray.size * k.toNat > (2 ^ 63 - 1) / 8:=by
  have:(sizeLine:Nat)<=(2 ^ 63 - 1) / 8:=by decide
  omega
 have hfit:¬ (!Builtin.List.listFitsIndex k)=true:=by
  rw [fitsIndex_both h1 h2]
  exact bi
 have hlong:¬ Builtin.List.listTooLong (its.toArray.size * k.toNat)=true:=by
  rw [vW hlen]
  exact bi
 have hnew:List.foldl (fun x1 x2=>x1++x2) #[] (List.replicate (if its.toArray.isEmpty=true then 0 else k.toNat) its.toArray)=(List.replicate k.toNat its).flatten.toArray:=by
  have f0:∀ m:Nat,List.foldl (fun x1 x2=>x1++x2) #[] (List.replicate m its.toArray)=(List.replicate m its).flatten.toArray:=fun m=>by
   have:=nV its m []
   rw [ou] at this
   exact this
  rw [f0]
  cases its with
  |nil=>simp
  |cons a r'=>rw [ar (by simp)]
 refine rh (T:="list") (U:="int") (by decide) ⟨_,e,rfl⟩ (fun s'=>rg s' k t) noFill_list_mul F.fills_int_mul ow repeat_list F.slot_int_index.lookup
  (jd ow (rg s k t) yd (xl _ _) (int___rmul___int_list k t l its.toArray n)
   ⟨e,rfl,⟨_,e,rfl⟩,jd F.slot_list_mul ⟨_,e,rfl⟩ F.entry_list_mul (F.args_list_mul_2 _ _) (AutoListH.list___mul___list_int_3 l its.toArray n k t hfit hcap hlong) ⟨e,?_⟩⟩)
 rw [hnew]
 exact ⟨.ref _,_,I.lnew (t':=s.toks) (r.rep k.toNat) (by rw [aP9,Nat.mul_comm];exact hz),rfl,q _ I.fresh⟩
end
section
variable {prog:Program}{w:World}{A:Around}{E:Value->Shared->Prop}{s:Shared}
end
section
variable {X:Cx}
end
end L2
namespace Att
open PySem PySem.W PySem.Calls PyProof.Rows
theorem oS {P:Params}{h:Heap}:∀ (ns:List Int) (vs:List Value),WellAll P h vs (ns.map WData.int)->IntsAre vs ns:=by
 intro ns
 induction ns with
 |nil =>
  intro vs w
  rw [List.map_nil] at w
  cases w
  exact .nil
 |cons n ns ih =>
  intro vs w
  rw [List.map_cons] at w
  cases w with
  |cons a b =>
   cases a
   exact .cons _ _ (ih _ b)
theorem aC8 {l:OpenLaw}{n:Nat}(hn:l.most=some n) {P:Params}{h:Heap}{args:List WData}{vals:List Value}
  (hpre:l.row.toRowW.claim.pre args=true) (hwl:WellAll P h vals args) :
  ∃ a vs ns,vals=[Value.ref a]/\args=[WData.list (ns.map WData.int)]/\h.get? a=some { cls:= .type "list",data:= .seq vs.toArray }/\IntsAre vs ns/\ns.length<=n:=by
 have hsh:WShape.hasAll [] args [.list .int]=true:=(pre_splitW hpre).1
 have hc:l.pre.holds [] { args:=args }=true:=(pre_splitW hpre).2
 obtain ⟨d,r,rfl,h1,h2⟩:=hasAllW_cons hsh
 obtain rfl:=hasAllW_nil h2
 obtain ⟨xs,rfl,h3⟩:=hasW_list h1
 obtain ⟨ns,rfl⟩:=items_int h3
 have hlen:ns.length<=n:=by
  unfold OpenLaw.pre at hc
  have h4:(WTm.not (.lt (.lit (.int (n:Int))) (.len (.arg 0)))).holds [] { args:=[.list (ns.map .int)] }=true:=by
   have h4:=(holds_andW hc).1
   rw [hn] at h4
   exact h4
  have h5:=condW_of h4 (w_not (w_lt w_lit (w_len_list (w_arg rfl))))
  rw [List.length_map] at h5
  refine Nat.le_of_not_lt fun q=>?_
  have q':(n:Int) < ((ns.length:Nat):Int):=by omega
  first
   |(rw [decide_eq_true q'] at h5;exact absurd h5 (by decide))
   |(simp at h5;omega)
 cases hwl with
 |cons w1 w2 =>
  cases w2
  cases w1 with
  |list ho hall=>exact ⟨_,_,ns,rfl,rfl,ho,oS ns _ hall,hlen⟩
theorem aC1 (l:OpenLaw) (args:List WData):l.row.toRowW.claim.post args (.bool true) args=true :=
 postW_of (r:=l.row.toRowW) (X:=(true == true))
  (show WShape.has [] (.bool true) .bool=true by first | rfl | decide | simp [WShape.has,WShape.arms,WShape.armsAll])
  (show (WTm.eq .res (.lit (.bool true))).value [] { args:=args,res:=some (.bool true),after:=args }=some (.bool (true == true)) from w_eq_bool (w_res rfl) w_lit) rfl
theorem attach_call {l:OpenLaw}{n:Nat}{q:Program}{loose:List Str}{XP:(Str->Option Value)->Heap->Prop}{YP:World->Heap->Prop}{d:DefRec}
  (hn:l.most=some n) (hdf:d.params.defaults=[])
  (call:∀ (w:World) (s₀ s₁:Shared) (mg mb:Str->Option Value) (fa:Addr) (o:Obj) (pm cd doc:Value) (a:Addr) (vs:List Value) (ns:List Int),
   Ground q loose [] XP w s₀ mg mb s₁.heap->YP w s₁.heap ->
   s₁.heap.get? fa=some o->o.data= .func (docDef d.name d.params d.body d.scope pm cd doc)->s₁.heap.CodeRec cd d.name->mg d.name=some (.ref fa) ->
   s₁.heap.get? a=some { cls:= .type "list",data:= .seq vs.toArray }->IntsAre vs ns->ns.length<=n->s₁.gens= #[] ->
   codeAny (model l.prog w) callerA (.call (.ref fa) ⟨[.ref a],[]⟩) (fun r s'=>r= .ok (.ret (.bool true))/\OldK s₁.heap s'.heap/\s'.os=s₁.os/\AllBare s'.gens) s₁) :
  WalkO q loose XP YP l.row.toRowW d [] (fun f vs=>PySem.call f vs):=by
 intro w s₀ s₁ mg mb G Y fa o pm cd doc dV kV ho hd hcd hD hmg hg args vals as hpre hlay hrd hwl hlo
 obtain rfl:dV= .none:=Dflts.none hD hdf
 obtain rfl:kV= .none:=Dflts.noKw hD
 obtain ⟨a,vs,ns,rfl,rfl,hobj,hints,hlen⟩:=aC8 hn hpre hwl
 refine enter_call (codeAny_mono (call w s₀ s₁ mg mb fa o pm cd doc a vs ns G Y ho (fd_plain hd) hcd hmg hobj hints hlen hg) fun r s' hq=>?_)
 obtain ⟨rfl,h2,h3,h4⟩:=hq
 exact ⟨.inl ⟨.bool true,.bool true,[],rfl,fun _=>rfl,.bool true,aC1 l _,fun _=>⟨List.Pairwise.nil,fun _ hm=>(nomatch hm)⟩⟩,h2,h3,h4⟩
section
variable {prog:Program}{w:World}{A:Around}{E:Value->Shared->Prop}{s:Shared}{K:Frag}
def bY9 (h:Heap) (L d:Addr):List (Addr×Obj):=(List.range h.objs.size).filterMap fun a=>if a=L\/a=d then none else (h.get? a).map fun o=>(a,o)
end
end Att
namespace L2
open PySem PySem.Spec PyProof.Rows
theorem tG:∀ {vs:List Value}{ns:List Int},IntsAre vs ns->bN (ns.map V.int) vs
 |_,_,.nil=> .nil
 |_,_,.cons n t h=> .cons ⟨t,rfl⟩ (tG h)
def aZ4 (H:Hp):Prop:=∀ b,H b=none\/∃ o xs,H b=some (.frz o (.lst xs))
theorem aP7 {P:Program}{w:World}{K:PySem.W.Frag}{mg mb:Str->Option Value}{CX:CXT}{k:Nat}{fa a:Addr}{fd:FuncData}{x:Str}{sp:Sp}{s₁:Shared}{vs:List Value}{ns:List Int}
  (KX:K.In s₁.heap) (hns:s₁.heap.Ns mainGlobals mg) (hb:s₁.heap.Ns builtinsNs mb) (hbb:∀ x:Str,x≠"__name__"->mb x=bootBuiltins x) (hlim:s₁.heap.NoLimit) (hg:s₁.gens= #[])
  (ha:s₁.heap.get? a=some { cls:= .type "list",data:= .seq vs.toArray }) (hi:IntsAre vs ns) (hl:ns.length<=sizeLine) (hr:eE k callerA)
  (F:∀ base:Heap,K.In base->base.Ns mainGlobals mg->jP P w K mg base CX k fa fd [x] sp) (hbind:∀ (s:Shared) (u:Value),BindsTo s fd ⟨[u],[]⟩ [(x,u)])
  (hsp:∀ H:Hp,aZ4 H->bI K H a (ns.map V.int)->sp [.ref a] H (fun v _=>v= .bl true) fun _ _ _=>False)
  (hCX:∀ H e s',CX [] H s₁ (fun _ _ _=>False) e s'->False) :
  codeAny (model P w) callerA (.call (.ref fa) ⟨[.ref a],[]⟩) (fun r s'=>r= .ok (.ret (.bool true))/\OldK s₁.heap s'.heap/\s'.os=s₁.os/\AllBare s'.gens) s₁:=by
 have rv:=tG hi
 have lenV:=hi.length
 have core:∀ H:Hp,aZ4 H->bI K H a (ns.map V.int)->jA P w H s₁.heap->(∀ b,H b≠none->b=a)->(H a≠none->K.lookup a=none) ->
   codeAny (model P w) callerA (.call (.ref fa) ⟨[.ref a],[]⟩) (fun r s'=>r= .ok (.ret (.bool true))/\OldK s₁.heap s'.heap/\s'.os=s₁.os/\AllBare s'.gens) s₁:=by
  intro H hO hS hok hA hK
  have base_of:∀ {b:Addr}{o:Obj},s₁.heap.get? b=some o->H b=none->(uI s₁.heap H).get? b=some o:=fun e n=>aM5 e n
  have noA:∀ {b:Addr}{o:Obj}{es:Array DictEntry}{ep:Nat},s₁.heap.get? b=some o->o.data= .dict es ep->H b=none:=fun {b o es ep} e d=>by
   cases q:H b with
   |none=>rfl
   |some u =>
    have e':b=a:=hA b (by rw [q];simp)
    subst e'
    rw [ha] at e;cases e
    have d':Data.seq vs.toArray _=Data.dict es ep:=d
    cases d'
  have nsK:∀ {b:Addr}{m:Str->Option Value},s₁.heap.Ns b m->(uI s₁.heap H).Ns b m:=fun {b m} ⟨o,es,ep,e,d,r⟩=>⟨o,es,ep,base_of e (noA e d),d,r⟩
  have hKb:K.In (uI s₁.heap H):=fun b o e=>base_of (KX b o e) (by
   cases q:H b with
   |none=>rfl
   |some u =>
    have e':b=a:=hA b (by rw [q];simp)
    subst e'
    rw [hK (by rw [q];simp)] at e;cases e)
  have hM:Mod K mg (uI s₁.heap H):=⟨hKb,nsK hns,⟨mb,nsK hb,hbb⟩,let ⟨mc,h1,h2⟩:=hlim;⟨mc,nsK h1,h2⟩⟩
  have e0:yQ P w K mg (uI s₁.heap H) callerA [] s₁ H:=⟨rfl,hM,fun b o e=>aP8 e,Nat.le_of_eq (aB3 _ _),trivial,fun b hb=>absurd (show b∈([]:List Addr) from hb) (by simp),hok,.of_eq hg⟩
  refine lv ((F _ hKb (nsK hns)).run callerA [] s₁ H ⟨[.ref a],[]⟩ [.ref a] [.ref a] _ _ hr e0 (hbind s₁ (.ref a)) (.cons rfl .nil) (hsp H hO hS)) fun r s' h=>?_
  cases r with
  |error e=>exact (hCX H e s' h).elim
  |ok fl =>
   cases fl with
   |next=>exact False.elim h
   |brk=>exact False.elim h
   |cont=>exact False.elim h
   |ret u =>
    obtain ⟨v,H',os,bare,un,hok',r',q⟩:=h
    have q':v= .bl true:=q
    subst q'
    obtain rfl:u=Value.bool true:=r'
    refine ⟨rfl,OldK.of_keep fun b o e=>?_,os,bare⟩
    cases q:H b with
    |none=>exact un.keep b o e q (by intro z;exact absurd (show b∈([]:List Addr) from z) (by simp)) (by simp)
    |some u =>
     rcases hO b with z | ⟨ob,xs,z⟩
     ·rw [q] at z;cases z
     ·have z2:=un.frzs b ob _ z
      obtain ⟨e1,_⟩:=hok b _ z
      obtain ⟨e2,_⟩:=hok' b _ z2
      rw [e] at e1;cases e1
      exact e2
 cases hk:K.lookup a with
 |some o =>
  have e:=KX a o hk
  rw [ha] at e
  cases e
  refine core (fun _=>none) (fun _=> .inl rfl) (.inr ⟨_,vs.toArray,_,hk,rfl,rfl,rfl,by rw [bj,lenV];exact hl,by simpa using rv⟩) (fun b u z=>by have z':(none:Option HO)=some u:=z;cases z') (fun b z=>absurd rfl z) fun z=>absurd rfl z
 |none =>
  refine core (fun b=>if b=a then some (.frz { cls:= .type "list",data:= .seq vs.toArray } (.lst (ns.map V.int))) else none) (fun b=>?_) (.inl (.inr ⟨{ cls:= .type "list",data:= .seq vs.toArray },bc rfl⟩)) (fun b u z=>?_) (fun b z=>?_) fun _=>hk
  ·by_cases hb:b=a
   ·exact .inr ⟨_,_,bc hb⟩
   ·exact .inl (ar hb)
  ·by_cases hb:b=a
   ·have z':=(bc hb).symm.trans z
    cases z'
    subst hb
    exact ⟨ha,by rw [aa];exact hl,vs,_,rv,ha⟩
   ·have z':=(ar hb).symm.trans z
    cases z'
  ·by_cases hb:b=a
   ·exact hb
   ·exact absurd (ar hb) z
theorem walk_of {l:PySem.W.OpenLaw}{n k:Nat}{q:Program}{loose:List Str}{XP:(Str->Option Value)->Heap->Prop}{YP:World->Heap->Prop}{d:DefRec}{K:Params->PySem.W.Frag}{CX:World->CXT}{sp:World->Sp}{x:Str}
  (hn:l.most=some n) (hn2:n<=sizeLine) (hdf:d.params.defaults=[]) (hr:eE k callerA)
  (hY:∀ (w:World) (h:Heap),YP w h->(K w.params).In h)
  (F:∀ (w:World) (mg:Str->Option Value) (fa:Addr) (h:Heap),(K w.params).In h->h.Ns mainGlobals mg->mg d.name=some (.ref fa) ->
   ∃ fd:FuncData,(∀ (s:Shared) (u:Value),BindsTo s fd ⟨[u],[]⟩ [(x,u)]) /\
    ∀ base:Heap,(K w.params).In base->base.Ns mainGlobals mg->jP l.prog w (K w.params) mg base (CX w) k fa fd [x] (sp w))
  (hsp:∀ (w:World) (H:Hp) (a:Addr) (ns:List Int),ns.length<=n->aZ4 H->bI (K w.params) H a (ns.map V.int)->sp w [.ref a] H (fun v _=>v= .bl true) fun _ _ _=>False)
  (hCX:∀ (w:World) (H:Hp) (s:Shared) (e:Value) (s':Shared),CX w [] H s (fun _ _ _=>False) e s'->False) :
  PySem.W.WalkO q loose XP YP l.row.toRowW d [] (fun f vs=>PySem.call f vs):=by
 refine Att.attach_call hn hdf fun w s₀ s₁ mg mb fa o pm cd doc a vs ns G Y ho hd hcd hmg hobj hints hlen hg=>?_
 have KX:=hY w _ Y
 obtain ⟨fd,hb,hF⟩:=F w mg fa _ KX G.T.g hmg
 exact aP7 KX G.T.g G.T.b G.T.builtins G.T.nolimit hg hobj hints (cj hlen hn2) hr hF hb (fun H hO hS=>hsp w H a ns hlen hO hS) fun H e s'=>hCX w H s₁ e s'
def dH (s:Stmt):Arguments:=match s with
 |.FunctionDef _ a _ _ _ _ _ _ _ _=>a
 |_=>{ posonlyargs:=[],args:=[],vararg:=none,kwonlyargs:=[],kw_defaults:=[],kwarg:=none,defaults:=[] }
def cH (s:Stmt):List Stmt:=match s with
 |.FunctionDef _ _ b _ _ _ _ _ _ _=>b
 |_=>[]
def aZ (s:Stmt):Scope:=match s with
 |.FunctionDef _ _ _ _ _ _ sc _ _ _=>sc
 |_=>{ kind:= .function,names:=[],isGenerator:=false,isCoroutine:=false }
abbrev wR:CXT:=fun _ _ _ _ _ _=>False
abbrev E0:XK:=fun _ _ _=>False
theorem aW5 {X:Cx}:jH wR X E0:=fun _ _ _ _ _ _ _ h=>h.elim
structure oP (K:PySem.W.Frag) (x qual:Str) (st:Stmt) (f:Addr) (fd:FuncData):Prop where
 ex:∃ (oc:Value) (od:Option Addr) (kV doc pm:Value) (an:Option Addr) (cdv ct:Value) (osl:Array (Option Value)),
  fd=PySem.W.fnOf x qual (dH st) (cH st) (aZ st) .none kV doc pm an cdv ct/\K.lookup f=some ⟨oc,od,.func fd,osl⟩/\PySem.W.codeIn K cdv qual=true
 kp:PySem.W.keepIn K (.ref f)=true
section
variable {P:Program}{w:World}{K:PySem.W.Frag}{mg:Str->Option Value}{base:Heap}
theorem oP.ok {x qual:Str}{st:Stmt}{f:Addr}{fd:FuncData}{N ps:List Str}{k:Nat}{sp:Sp}(F:oP K x qual st f fd) (S:gG N ps (aZ st)) (len:∀ vs H Q E,sp vs H Q E->vs.length=ps.length)
  (hbody:∀ (cdv:Value) (A:Around) (outer:List Env) (s:Shared) (H:Hp) (vs:List V) (Q:VK) (E:XK),eE k (A.deeper (envOfC qual (aZ st) s.heap.objs.size f cdv))->sp vs H Q E ->
   ∃ t,oN (gO wR P w K mg base N qual (aZ st) f cdv A outer s H E).nox (cH st) t/\t { nx:=fun _ H'=>Q .non H',rt:=Q } (iJ N vs) H):jP P w K mg base wR (k+1) f fd ps sp:=by
 obtain ⟨oc,od,kV,doc,pm,an,cdv,ct,osl,rfl,lk,hcd⟩:=F.ex
 refine aX0 lk hcd S len fun A outer s H vs Q E hr hsp=>?_
 obtain ⟨t,h,q⟩:=hbody cdv A outer s H vs Q E hr hsp
 exact ⟨t,h.nox,q⟩
theorem oP.binds {x qual:Str}{st:Stmt}{f:Addr}{fd:FuncData}{ps:List Str}(F:oP K x qual st f fd)
  (h:∀ (kV doc pm:Value) (an:Option Addr) (cdv ct:Value) (us:List Value),us.length=ps.length->bindArgs (PySem.W.fnOf x qual (dH st) (cH st) (aZ st) .none kV doc pm an cdv ct) ⟨us,[]⟩=pure (ps.zip us)):gQ K fd ps []:=by
 obtain ⟨oc,od,kV,doc,pm,an,cdv,ct,osl,rfl,lk,hcd⟩:=F.ex
 exact .all (h kV doc pm an cdv ct)
theorem yF {x qual:Str}{st:Stmt}{f:Addr}{oc:Value}{od an:Option Addr}{osl:Array (Option Value)}{kV doc pm cdv ct:Value}(l:K.lookup f=some ⟨oc,od,.func (PySem.W.fnOf x qual (dH st) (cH st) (aZ st) .none kV doc pm an cdv ct),osl⟩)
  (c:PySem.W.codeIn K cdv qual=true) (k:PySem.W.keepIn K (.ref f)=true):oP K x qual st f (PySem.W.fnOf x qual (dH st) (cH st) (aZ st) .none kV doc pm an cdv ct):=⟨⟨oc,od,kV,doc,pm,an,cdv,ct,osl,rfl,l,c⟩,k⟩
end
theorem lR {A:Around}{k:Nat}(hr:eE k A):A.units+1 < cLine:=dz (Nat.add_le_add_left (by decide:1<=64) _) hr.units
theorem bL {n:Nat}(h:n<=1000):n < sizeLine:=dz h (by decide)
section
variable {X:Cx}
theorem pv (i:Nat) {x:Str}{pos:Pos}(hN:autoParam (X.N[i]?=some x) Rq0._auto_1) (hv:Vis X.env.scope x:=by first | exact ii rfl | exact ur (ii rfl) | exact ur (ur rfl)) (hd:autoParam ((x == ("__debug__": Str))=false) Rq1._auto_1)
  (hcd:autoParam ((x == ("__classdict__": Str))=false) Rq1._auto_1):PE X (.Name x pos) (bN7 i):=bB8 hN hv hd hcd
end
theorem bX8 {A B:Prop}(h:B):if false=true then A else B:=by
 rw [ar bi]
 exact h
theorem rN {c A B:Prop} [Decidable c] (h1:c->A) (h2:¬ c->B):if c then A else B:=by
 by_cases h:c
 ·rw [bc h]
  exact h1 h
 ·rw [ar h]
  exact h2 h
def bB (H H':Hp):Prop:=∀ b o,H b=some o->H' b=some o
theorem bB.refl (H:Hp):bB H H:=fun _ _ h=>h
theorem bB.trans {H H1 H2:Hp}(a:bB H H1) (b:bB H1 H2):bB H H2:=fun c o h=>b c o (a c o h)
theorem bB.free {H H':Hp}(e:bB H H') {l:Addr}(h:H' l=Option.none):H l=Option.none:=by
 cases q:H l with
 |none=>rfl
 |some o =>
  rw [e l o q] at h
  cases h
theorem bB.seq {K:PySem.W.Frag}{H H':Hp}{a:Addr}{xs:List V}(e:bB H H') (h:bI K H a xs):bI K H' a xs:=by
 rcases h with (h | ⟨o,h⟩) | h
 ·exact .inl (.inl (e _ _ h))
 ·exact .inl (.inr ⟨o,e _ _ h⟩)
 ·exact .inr h
section
variable {κ: Type} [DecidableEq κ]
end
end L2
set_option maxHeartbeats 4000000
namespace L2
open PySem PySem.Spec PyProof.Rows
def tV (env:Env) (names:List (Str×NameKind)):List (Str×Addr) :=
 names.foldl (fun cs y=>if y.2 == NameKind.free then (y.1,(env.cells.lookup y.1).getD 0) :: cs else cs) []
theorem aK4 {env:Env}:∀ (names:List (Str×NameKind)) (cs:List (Str×Addr)),(∀ y∈names,y.2= .free->∃ c,env.cells.lookup y.1=some c) ->
  (forIn names cs fun (y:Str×NameKind) (r:List (Str×Addr))=>(if y.2 == NameKind.free then (do let a <- cellOf env y.1;pure (ForInStep.yield ((y.1,a) :: r))) else pure (ForInStep.yield r):Sem (ForInStep (List (Str×Addr))))) =
   pure (names.foldl (fun cs y=>if y.2 == NameKind.free then (y.1,(env.cells.lookup y.1).getD 0) :: cs else cs) cs)
 |[],cs,_=>rfl
 |(n,k) :: r,cs,h=>by
  have ih:=fun cs'=>aK4 (env:=env) r cs' fun y hy=>h y (ay _ hy)
  rw [ub,io]
  by_cases hk:k= .free
  ·subst hk
   obtain ⟨c,hc⟩:=h (n,.free) bh rfl
   have e:cellOf env n=pure c:=by unfold cellOf;rw [hc]
   simp only [beq_self_eq_true,if_true,e,pure_bind,hc,Option.getD_some]
   exact ih _
  ·have hb:(k == NameKind.free)=false:=by simpa using hk
   simp only [hb,Bool.false_eq_true,if_false,pure_bind]
   exact ih _
theorem pQ {scope:Scope}{env:Env}(h:∀ y∈scope.names,y.2= .free->∃ c,env.cells.lookup y.1=some c):closureFor scope env=pure (tV env scope.names):=by
 unfold closureFor
 have e:=aK4 (env:=env) scope.names [] h
 simp only [] at e ⊢
 refine Eq.trans ?_ (dg (fun m:Sem (List (Str×Addr))=>m >>= fun cs=>pure cs) e)
 rfl
theorem aL4 {env:Env}{x:Str}{c:Addr}:∀ (names:List (Str×NameKind)) (cs:List (Str×Addr)),(∀ y∈names,y.2= .free->∃ c,env.cells.lookup y.1=some c) ->
  (names.foldl (fun cs y=>if y.2 == NameKind.free then (y.1,(env.cells.lookup y.1).getD 0) :: cs else cs) cs).lookup x=some c->cs.lookup x=some c\/env.cells.lookup x=some c
 |[],_,_,e=> .inl e
 |(n,k) :: r,cs,h,e=>by
  rw [io] at e
  have ih:=aL4 r _ (fun y hy=>h y (ay _ hy)) e
  rcases ih with q | q
  ·by_cases hk:k= .free
   ·subst hk
    obtain ⟨c',hc⟩:=h (n,.free) bh rfl
    simp only [beq_self_eq_true,if_true,hc,Option.getD_some,List.lookup_cons] at q
    cases hx:x == n with
    |true =>
     rw [hx] at q
     have:x=n:=by simpa using hx
     subst this
     simp only [Option.some.injEq] at q
     subst q
     exact .inr hc
    |false =>
     rw [hx] at q
     exact .inl q
   ·have hb:(k == NameKind.free)=false:=by simpa using hk
    simp only [hb,Bool.false_eq_true,if_false] at q
    exact .inl q
  ·exact .inr q
theorem yU {env:Env}{x:Str}:∀ (names:List (Str×NameKind)) (cs:List (Str×Addr)),((x,NameKind.free)∈names\/∃ c,cs.lookup x=some c) ->
  ∃ c,(names.foldl (fun cs y=>if y.2 == NameKind.free then (y.1,(env.cells.lookup y.1).getD 0) :: cs else cs) cs).lookup x=some c
 |[],_,e=>by rcases e with e | e;exact absurd e (by simp);exact e
 |(n,k) :: r,cs,e=>by
  rw [io]
  refine yU r _ ?_
  rcases e with e | ⟨c,e⟩
  ·rcases cq.mp e with z | z
   ·cases z
    right
    simp only [beq_self_eq_true,if_true,List.lookup_cons]
    exact ⟨_,rfl⟩
   ·exact .inl z
  ·right
   by_cases hk:k= .free
   ·subst hk
    simp only [beq_self_eq_true,if_true,List.lookup_cons]
    cases hx:x == n with
    |true=>exact ⟨_,rfl⟩
    |false=>exact ⟨c,e⟩
   ·have hb:(k == NameKind.free)=false:=by simpa using hk
    simp only [hb,Bool.false_eq_true,if_false]
    exact ⟨c,e⟩
theorem nC {env:Env}{x:Str}:∀ {names:List (Str×NameKind)},(∀ y∈names,y.2≠ .cell) ->
  ((names.map fun (n,k)=>if (k == NameKind.free && env.scope.kind == .function && env.kindOf n == some .cell) then (n,NameKind.cell) else (n,k)).lookup x=some .cell \/
   (names.map fun (n,k)=>if (k == NameKind.free && env.scope.kind == .function && env.kindOf n == some .cell) then (n,NameKind.cell) else (n,k)).lookup x=some .free)->(x,NameKind.free)∈names
 |[],_,h=>by simp at h
 |(n,k) :: r,hc,h=>by
  have ih:= @nC env x r fun y hy=>hc y (ay _ hy)
  have hk:=hc (n,k) bh
  simp only [List.map_cons] at h
  by_cases cc:(k == NameKind.free && env.scope.kind == .function && env.kindOf n == some .cell)=true
  ·rw [bc cc] at h
   have kf:k= .free:=by
    simp only [Bool.and_eq_true,beq_iff_eq] at cc
    exact cc.1.1
   subst kf
   simp only [List.lookup_cons] at h
   cases hx:x == n with
   |true =>
    have:x=n:=by simpa using hx
    subst this
    exact bh
   |false=>rw [hx] at h;exact ay _ (ih h)
  ·rw [ar cc] at h
   simp only [List.lookup_cons] at h
   cases hx:x == n with
   |true =>
    rw [hx] at h
    have:x=n:=by simpa using hx
    subst this
    rcases h with h | h
    ·simp only [Option.some.injEq] at h
     exact absurd h hk
    ·simp only [Option.some.injEq] at h
     subst h
     exact bh
   |false=>rw [hx] at h;exact ay _ (ih h)
abbrev aI0 (ifs:List Expr) (env:Env):Sem Bool:=forIn ifs true fun c r =>
 if r=true then do
  let ok <- isTrue c env (eval c env)
  pure (ForInStep.yield ok)
 else pure (ForInStep.yield r)
def aM8 (X:Cx) (ifs:List Expr) (t:TT):Prop :=
 ∀ (pins:List (Addr×Obj)) (s:Shared) (σ: St) (H:Hp) (Q:Bool->Hp->Prop),bC X pins σ H s->t σ H Q ->
  wpAny (model X.prog X.w) X.A (aI0 ifs X.env) (TP X pins σ Q) X.xe s
def tYes:TT:=fun _ H Q=>Q true H
theorem eK {X:Cx}:aM8 X [] tYes:=fun _ _ _ H _ I h=>wpAny_tests_nil ⟨H,I,h⟩
theorem mE {X:Cx}{c:Expr}{t:TT}(h:PT X c t):aM8 X [c] t:=fun pins s σ H Q I q=>wpAny_tests_one (h pins s σ H Q I q)
abbrev yI:Value->Shared->Prop:=fun _ _=>False
theorem aD6 {prog:Program}{w:World}{A:Around}{R:Result->Shared->Prop}{s0:Shared}{elt target iter:Expr}{ifs:List Expr}{scope:Scope}{pos:Pos}{it acc:Value}{env:Env}(W:Nat->Shared->Prop)
  (one:∀ k t,W k t->wpAny (model prog w) A (pyNext it) (fun r t1=>match r with
   |none=>R (.ok .next) t1
   |some v=>wpAny (model prog w) A (letOwnedTupleGo target it v) (fun _ t2=>wpAny (model prog w) A (assign target env v) (fun _ t3=>wpAny (model prog w) A (aI0 ifs env) (fun ok t4 =>
     if ok=true then wpAny (model prog w) A (eval elt env) (fun x t5=>wpAny (model prog w) A (call (.builtin "list.append") [acc,x]) (fun _ t6=>∃ j,j < k/\W j t6) yI t5) yI t4
     else ∃ j,j < k/\W j t4) yI t3) yI t2) yI t1) yI t)
  (k0:Nat) (h0:W k0 s0):codeAny (model prog w) A (.compLoop (.ListComp elt [⟨target,iter,ifs,0⟩] scope pos) 0 it acc env) R s0:=by
 refine codeAny_loop rfl W (fun k t hW=>?_) k0 h0
 refine wpAny_noted (m:=compTurn (.ListComp elt [⟨target,iter,ifs,0⟩] scope pos) 0 it acc env) ?_
 have no:∀ {P:Prop}{e:Value}{t:Shared},yI e t->P:=fun z=>z.elim
 rw [compTurn_list]
 refine ac (nj (ac (di (one k t hW) (fun r t1 q1=>?_) fun _ _=>no)))
 match r with
 |none=>exact ao q1
 |some v =>
  refine ac (di q1 (fun _ t2 q2=>ac (di q2 (fun _ t3 q3=>ac (di q3 (fun ok t4 q4=>?_) fun _ _=>no)) fun _ _=>no)) fun _ _=>no)
  match ok with
  |false=>exact ao ⟨rfl,q4⟩
  |true =>
   rw [bc rfl] at q4
   refine ac (ac (di q4 (fun x t5 q5=>ac (di q5 (fun _ t6 q6=>?_) fun _ _=>no)) fun _ _=>no))
   exact ao (ao ⟨rfl,q6⟩)
def vV (ix:List (Option Nat)) (σ: St):St:=ix.map fun o=>o.bind fun j=>σ[j]?.join
theorem aH2 {ix:List (Option Nat)}{σ: St}{i:Nat}{v:V}(h:(vV ix σ)[i]?=some (some v)):∃ j,ix[i]?=some (some j)/\σ[j]?=some (some v):=by
 unfold vV at h
 rw [dh] at h
 cases e:ix[i]? with
 |none=>rw [e] at h;cases h
 |some o =>
  rw [e] at h
  cases o with
  |none=>cases h
  |some j =>
   have h:some (σ[j]?.join)=some (some v):=h
   refine ⟨j,rfl,?_⟩
   cases q:σ[j]? with
   |none=>rw [q] at h;cases h
   |some z=>rw [q] at h;cases h;rfl
def tZ (N:List Str) (sc scope:Scope) (N':List Str) (ix:List (Option Nat)):Bool :=
 ix.length == N'.length && (ix.zip N').all (fun p=>match p.1 with | none=>true | some j=>N[j]? == some p.2 && scope.names.lookup p.2 == some NameKind.free) &&
 scope.names.all (fun y=>y.2 != NameKind.cell && (y.2 != NameKind.free || sc.names.lookup y.1 == some NameKind.cell || sc.names.lookup y.1 == some NameKind.free) && (y.2 != NameKind.local || scope.names.lookup y.1 == some NameKind.local)) &&
 scope.kind == ScopeKind.function
structure hZ (N:List Str) (sc scope:Scope) (N':List Str) (ix:List (Option Nat)):Prop where
 len:ix.length=N'.length
 at_:∀ (i j:Nat) (x:Str),ix[i]?=some (some j)->N'[i]?=some x->N[j]?=some x/\scope.names.lookup x=some .free
 nocell:∀ y∈scope.names,y.2≠ .cell
 free:∀ y∈scope.names,y.2= .free->sc.names.lookup y.1=some .cell\/sc.names.lookup y.1=some .free
 loc:∀ y∈scope.names,y.2= .local->scope.names.lookup y.1=some .local
 kind:scope.kind= .function
theorem hZ.of {N:List Str}{sc scope:Scope}{N':List Str}{ix:List (Option Nat)}(h:tZ N sc scope N' ix=true):hZ N sc scope N' ix:=by
 unfold tZ at h
 simp only [Bool.and_eq_true,beq_iff_eq,List.all_eq_true] at h
 obtain ⟨⟨⟨h1,h2⟩,h3⟩,h4⟩:=h
 refine ⟨h1,fun i j x a b=>?_,fun y hy e=>?_,fun y hy e=>?_,fun y hy e=>?_,h4⟩
 ·have hm:(some j,x)∈ix.zip N':=ap (i:=i) (by rw [List.getElem?_zip_eq_some];exact ⟨a,b⟩)
  have q:=h2 _ hm
  simp only [Bool.and_eq_true,beq_iff_eq] at q
  exact q
 ·have q:=h3 y hy
  simp only [Bool.and_eq_true,bne_iff_ne,ne_eq] at q
  exact q.1.1 e
 ·have q:=(h3 y hy).1.2
  rw [e] at q
  simpa using q
 ·have q:=(h3 y hy).2
  rw [e] at q
  simpa using q
def cV (X:Cx) (N':List Str) (scope:Scope) (C:Addr) (s₂:Shared) (H₂:Hp) (fp:List Addr):Cx where
 prog:=X.prog
 w:=X.w
 K:=X.K
 mg:=X.mg
 base:=X.base
 A:=X.A
 N:=N'
 s₀:=s₂
 H₀:=H₂
 env:=compEnvC scope (tV X.env scope.names) C X.env
 outer:=X.stack
 stack:=X.stack
 ex:=fp
 fn:=fun _=>false
 calm:=X.calm
 pn:=[]
 xe:=fun _ _=>False
section
variable {X:Cx}{N':List Str}{ix:List (Option Nat)}{scope:Scope}{pins:List (Addr×Obj)}{σ: St}{H₂:Hp}{s₂:Shared}{fp:List Addr}{C:Addr}
theorem hZ.cells (S:hZ X.N X.env.scope scope N' ix) (I:bC X pins σ H₂ s₂):∀ y∈scope.names,y.2= .free->∃ c,X.env.cells.lookup y.1=some c:=fun y hy e=>I.ok.has y.1 (S.free y hy e)
theorem hZ.get (S:hZ X.N X.env.scope scope N' ix) (I:bC X pins σ H₂ s₂) {x:Str}{c:Addr}(h:(tV X.env scope.names).lookup x=some c):X.env.cells.lookup x=some c:=by
 rcases aL4 scope.names [] (S.cells I) h with q | q
 ·exact absurd q (by simp)
 ·exact q
theorem aC5 (S:hZ X.N X.env.scope scope N' ix) (I:bC X pins σ H₂ s₂) (hf:∀ b∈fp,mH X pins H₂ b) (hC:s₂.heap.objs.size<=C) (hfC:∀ b∈fp,b < s₂.heap.objs.size):(cV X N' scope C s₂ H₂ fp).Ok where
 mod:=I.ok.mod
 kind:=S.kind
 glob:=I.ok.glob
 blt:=I.ok.blt
 above:=hC
 inj:=fun x y c a b=>I.ok.inj x y c (S.get I a) (S.get I b)
 has:=fun x h=>yU scope.names [] (.inl (nC S.nocell h))
 cab:=fun x c h=>by cases h
 hd:=I.ok.hd
 frames:=I.ok.frames
 stk:= .inl rfl
 exf:=fun b hb=>⟨cg (bv (hfC b hb) hC),fun x c e=>(hf b hb).2.2.2.2.1 x c (S.get I e)⟩
 bs:=I.bs
 bsz:=cj I.ok.bsz I.sz
 noex:=fun b o e hb=>by
  rcases (hf b hb).2.2.2.1 with z | z
  ·exact I.ok.noex b o e z
  ·exact absurd (bv (aq e) (cj I.ok.bsz z)) (ef _)
 exfs:=fun b hb hm=>by
  rcases cq.mp (I.stkSub b hm) with z | z
  ·exact (hf b hb).2.1 z
  ·exact (hf b hb).2.2.1 z
 funs:=I.stack
 frf:=I.stkFree
theorem yJ (S:hZ X.N X.env.scope scope N' ix) (I:bC X pins σ H₂ s₂) (hf:∀ b∈fp,mH X pins H₂ b) (hfC:∀ b∈fp,b < s₂.heap.objs.size) {D:Addr}{h₁:Heap}{tk:Nat}{m:Str->Option Value}{ob:Obj}
  (hC:s₂.heap.objs.size<=C) (hD:s₂.heap.objs.size<=D) (hDC:D≠C) (old:∀ b o,s₂.heap.get? b=some o->h₁.get? b=some o) (hn:h₁.Ns C m) (hob:h₁.get? D=some ob) (hd:∀ v,ob.data≠ .cell v) :
  bC (cV X N' scope C s₂ H₂ fp) [(D,ob)] (vV ix σ) H₂ { s₂ with heap:=h₁,toks:=tk }:=by
 have fr:∀ a,s₂.heap.objs.size<=a->H₂ a=none:=fun a ha=>I.hok.fresh ha
 have cOf:∀ x c,(tV X.env scope.names).lookup x=some c->X.env.cells.lookup x=some c:=fun x c e=>S.get I e
 refine ⟨aC5 S I hf hC hfC,rfl,I.bare,Un.kept old,⟨m,hn,fun i x v e1 e2 e3=>?_⟩,fun x c e=>?_,fr C hC,fun x c e=>I.freeC x c (cOf x c e),fun p hp=>?_,I.hok.kept old,?_⟩
 ·obtain ⟨j,q1,q2⟩:=aH2 e2
  obtain ⟨n1,n2⟩:=S.at_ i j x q1 e1
  have hm:(x,NameKind.free)∈scope.names:=iq n2
  have hv:Vis X.env.scope x:=by
   rcases S.free _ hm rfl with z | z
   ·exact .inr (.inl z)
   ·exact .inr (.inr z)
  obtain ⟨m0,_,hl⟩:=I.loc
  obtain ⟨u,r,l⟩:=hl j x v n1 q2 hv
  refine ⟨u,r,?_⟩
  have hne:¬ X.env.kindOf x=some .local:=fun z=>by
   have z:X.env.scope.names.lookup x=some .local:=z
   rcases S.free _ hm rfl with y | y
   ·rw [y] at z;cases z
   ·rw [y] at z;cases z
  rcases l with ⟨k,_⟩ | ⟨k,c,e,z⟩
  ·exact absurd k hne
  ·obtain ⟨c',hc'⟩:=yU (env:=X.env) (x:=x) scope.names [] (.inl hm)
   have hc'':=cOf x c' hc'
   rw [e] at hc''
   cases hc''
   have kk:(cV X N' scope C s₂ H₂ fp).env.kindOf x=some .cell\/(cV X N' scope C s₂ H₂ fp).env.kindOf x=some .free:=by
    rcases e3 with y | y | y
    ·exfalso
     have:∀ {names:List (Str×NameKind)},names.lookup x=some .free ->
      (names.map fun (n,k)=>if (k == NameKind.free && X.env.scope.kind == .function && X.env.kindOf n == some .cell) then (n,NameKind.cell) else (n,k)).lookup x=some .local->False:=by
      intro names
      induction names with
      |nil=>intro a;simp at a
      |cons p r ih =>
       obtain ⟨n,k⟩:=p
       intro a b
       simp only [List.map_cons] at b
       simp only [List.lookup_cons] at a
       cases hx:x == n with
       |true =>
        rw [hx] at a
        simp only [Option.some.injEq] at a
        subst a
        split at b
        ·simp [List.lookup_cons,hx] at b
        ·simp [List.lookup_cons,hx] at b
       |false =>
        rw [hx] at a
        split at b
        ·simp only [List.lookup_cons,hx] at b;exact ih a b
        ·simp only [List.lookup_cons,hx] at b;exact ih a b
     exact this n2 y
    ·exact .inl y
    ·exact .inr y
   obtain ⟨oc,ho,hod⟩:=z
   exact .inr ⟨kk,c,hc',oc,old _ _ ho,hod⟩
 ·obtain ⟨v,o,ho,hod⟩:=I.cell x c (cOf x c e)
  exact ⟨v,o,old _ _ ho,hod⟩
 ·have hp:p∈[(D,ob)]:=hp
  have e:p=(D,ob):=by simpa using hp
  subst e
  refine ⟨hob,fr D hD,hDC,fun hb=>?_,hd⟩
  have hb:D∈jR X.stack:=hb
  rcases cq.mp (I.stkSub D hb) with z | z
  ·exact absurd I.lt (by rw [<- z];exact rj.mpr hD)
  ·exact I.nofs hD z
 ·show (vV ix σ).length=N'.length
  unfold vV
  rw [aa,S.len]
theorem yL (I:bC X pins σ H₂ s₂) (hf:∀ b∈fp,mH X pins H₂ b) {pins':List (Addr×Obj)}{σ':St}{H':Hp}{s':Shared}{D:Addr}{ys:List V}{its:List Value}(hC:s₂.heap.objs.size<=C) (hD:s₂.heap.objs.size<=D)
  (J:bC (cV X N' scope C s₂ H₂ fp) pins' σ' H' s') (hn:H' D=none) (hl:s'.heap.PlainList D its.toArray) (r:bN ys its) (hz:ys.length<=sizeLine):bC X pins σ (aJ H' D (.lst ys)) s':=by
 have sb:Un (jR X.stack) fp H₂ H' s₂.heap s'.heap:=J.base
 have nD:∀ b u,H' b=some u->b≠D:=fun b u e=>aK e hn
 refine I.call' (ch:=fp) J.os ⟨sb.keep,sb.slot,fun b o e n hx=>?_,sb.there,fun b xs e=>?_,fun b o u e=>?_,fun b ps e=>?_⟩ (fun b u e=>?_) J.bare (fun b hb=>?_)
 ·rw [aH (cg (bv (aq e) hD))]
  exact sb.free b o e n hx
 ·have q:=sb.tups b xs e
  rw [aH (nD b _ q)];exact q
 ·have q:=sb.frzs b o u e
  rw [aH (nD b _ q)];exact q
 ·obtain ⟨more,q⟩:=sb.tbls b ps e
  exact ⟨more,by rw [aH (nD b _ q)];exact q⟩
 ·by_cases hb:b=D
  ·subst hb
   rw [aC] at e
   cases e
   obtain ⟨n,hg⟩:=hl
   exact ⟨hz,its,n,r,hg⟩
  ·rw [aH hb] at e
   exact (J.hok b u e).stay (fun c v _ q=>q) (fun c q=>by rw [aH (nD c _ q)];exact q) fun c xs q=>by rw [aH (nD c _ q)];exact q
 ·obtain ⟨_,f1,_,f3,f4,f5⟩:=hf b hb
  exact ⟨f3,f1,f4,f5⟩
end
def qI (J:It) (g:TG) (tc:TT) (te:TE) (Kf:List V->Hp->Prop) (σ0:St) (H1:Hp):Prop :=
 ∃ W:Nat->Nat->List V->St->Hp->Prop,(∃ m,W 0 m [] σ0 H1)/\∀ i m ys σ' H',W i m ys σ' H'->ys.length < sizeLine /\
  ((J.stop i H'/\Kf ys H')\/(J.go i H'/\∃ N:List V->St->Hp->Prop,(∀ ys' σ2 H2,N ys' σ2 H2->∃ m',m' < m/\W (i+1) m' ys' σ2 H2)/\∀ x H'',J.yld i H' x H''->g x σ' H'' fun σ2 H2=>tc σ2 H2 fun b H3 =>
   if b=true then te σ2 H3 fun y H4=>N (ys++[y]) σ2 H4 else N ys σ2 H3))
def aX2 (wi:TI) (ix:List (Option Nat)) (g:TG) (tc:TT) (te:TE):TE:=fun σ H Q =>
 wi σ H fun J H1=>qI J g tc te (fun ys H'=>∀ l,H' l=none->Q (.ref l) (aJ H' l (.lst ys))) (vV ix σ) H1
section
variable {X:Cx}{tg elt iter:Expr}{ifs:List Expr}{scope:Scope}{pos:Pos}{N':List Str}{ix:List (Option Nat)}{wi:TI}{g:TG}{tc:TT}{te:TE}
def aT3 (X:Cx) (pins:List (Addr×Obj)) (σ: St) (Kf:List V->Hp->Prop) (acc:Value) (C:Addr) (s':Shared):Prop :=
 ∃ D H' ys,acc= .ref D/\H' D=none/\bC X pins σ (aJ H' D (.lst ys)) s'/\(∃ m,s'.heap.Ns C m)/\H' C=none/\D≠C/\C≠X.env.locals/\X.s₀.heap.objs.size<=C/\(∀ x c,X.env.cells.lookup x=some c->c≠C)/\(∀ p∈X.pn++pins,p.1≠C)/\Kf ys H'
theorem sU {pins:List (Addr×Obj)}{s₂:Shared}{σ: St}{H₂:Hp}{it:Addr}{fp:List Addr}{tn:Nat->Heap->Prop}{J:It}{Kf:List V->Hp->Prop}{RR:Value->Addr->Result->Shared->Prop}{E:Value->Shared->Prop}
  (S:hZ X.N X.env.scope scope N' ix) (hc:X.calm=true)
  (hg:∀ C s₂ H₂ fp,PG (cV X N' scope C s₂ H₂ fp) tg g) (ht:∀ C s₂ H₂ fp,aM8 (cV X N' scope C s₂ H₂ fp) ifs tc) (he:∀ C s₂ H₂ fp,PE (cV X N' scope C s₂ H₂ fp) elt te)
  (I2:bC X pins σ H₂ s₂) (T:uP X.prog X.w X.K tg J fp it tn) (st2:tn 0 s₂.heap) (f2:∀ b∈fp,mH X pins H₂ b) (w:qI J g tc te Kf (vV ix σ) H₂)
  (hR:∀ acc C s',aT3 X pins σ Kf acc C s'->RR acc C (.ok .next) s') :
  wpAny (model X.prog X.w) X.A (newList []) (fun acc s₃=>wpAny (model X.prog X.w) X.A (newFunctionEnv scope X.env.globals (tV X.env scope.names) [] X.env.qual none .none (some X.env)) (fun cenv s₄ =>
   codeAny (model X.prog X.w) X.A (.compStart (.ListComp elt [⟨tg,iter,ifs,0⟩] scope pos) 0 (.ref it) acc { cenv with scope:=relabel scope X.env }) (RR acc cenv.locals) s₄) E s₃) E s₂:=by
 obtain ⟨W,⟨m0,w0⟩,turn⟩:=w
 refine fj (wpAny_newFunctionEnv S.nocell (by intro y hy;simp at hy) (fun h₁ nsN sbN=>?_) S.kind)
 dsimp only at nsN sbN ⊢
 generalize eH:s₂.heap.push { cls:= .type "list",dict:=none,data:= .seq ([]:List Value).toArray }=G2 at nsN sbN ⊢
 have sizeC:G2.objs.size=s₂.heap.objs.size+1:=by rw [<- eH,jg]
 have neDC:s₂.heap.objs.size≠G2.objs.size:=by rw [sizeC];exact cg (ej _)
 have leC:s₂.heap.objs.size<=G2.objs.size:=by rw [sizeC];exact df _
 have older:∀ b,b < s₂.heap.objs.size->b≠G2.objs.size/\b≠s₂.heap.objs.size:=fun b hb=>⟨by rw [sizeC];exact cg (ju hb),cg hb⟩
 have keepOld:∀ b o,s₂.heap.get? b=some o->h₁.get? b=some o:=fun b o e=>sbN.extBut b o (older b (aq e)).1 (ah _ (eH ▸ ah _ e))
 have accNew:h₁.PlainList s₂.heap.objs.size #[]:=⟨_,sbN.extBut _ _ neDC (ah _ (eH ▸ br _ rfl))⟩
 generalize eC:G2.objs.size=C at *
 generalize eD:s₂.heap.objs.size=D at *
 have hfC:∀ b∈fp,b < s₂.heap.objs.size:=fun b hb=>by
  obtain ⟨o,e,_⟩:=T.obj 0 _ st2 b hb
  exact aq e
 have hfD:∀ b∈fp,b≠D:=fun b hb=>by have:=hfC b hb;rw [eD] at this;exact cg this
 have hfC':∀ b∈fp,b≠C:=fun b hb=>by have:=hfC b hb;rw [eD] at this;exact cg (bv this leC)
 have geD:s₂.heap.objs.size<=D:=by rw [eD];exact ai _
 have geC:s₂.heap.objs.size<=C:=by rw [eD];exact leC
 obtain ⟨nn,hob⟩:=id accNew
 have J1:bC (cV X N' scope C s₂ H₂ fp) [] (vV ix σ) H₂ { s₂ with heap:=h₁,toks:=s₂.toks+([]:List (Str×Value)).length } :=
  (yJ S I2 f2 hfC geC geD neDC keepOld nsN hob (fun v z=>by cases z)).pins_of (fun p hp=>absurd hp (by simp))
 have nfsD:D∉jR X.stack:=fun hb=>by
  rcases cq.mp (I2.stkSub D hb) with z | z
  ·exact absurd I2.lt (by rw [<- z];exact rj.mpr geD)
  ·exact I2.nofs geD z
 have cOf:∀ x c,(tV X.env scope.names).lookup x=some c->c≠D/\c≠C:=fun x c e=>by
  obtain ⟨v,z⟩:=I2.cell x c (S.get I2 e)
  have:=z.lt
  rw [eD] at this
  exact ⟨cg this,cg (bv this leC)⟩
 have fpk:∀ {pl:List (Addr×Obj)}{H':Hp},(∀ b∈fp,H' b=none)->(∀ p∈pl,p.1∉fp)->∀ b∈fp,mH (cV X N' scope C s₂ H₂ fp) pl H' b:=fun {pl H'} hn hp b hb =>
  ⟨hn b hb,hfC' b hb,fun z=>by
    rcases cq.mp (I2.stkSub b z) with q | q
    ·exact (f2 b hb).2.1 q
    ·exact (f2 b hb).2.2.1 q,
   .inl hb,fun x c e=>(f2 b hb).2.2.2.2.1 x c (S.get I2 e),fun p hp' z=>hp p (by simpa [cV] using hp') (by rw [z];exact hb)⟩
 have dpk:∀ {H':Hp},H' D=none->∀ b∈[D],mH (cV X N' scope C s₂ H₂ fp) [] H' b:=fun {H'} hn b hb=>by
  have e:b=D:=by simpa using hb
  subst e
  exact ⟨hn,neDC,nfsD,.inr geD,fun x c e=>(cOf x c e).1,fun p hp=>absurd hp (by simp [cV])⟩
 have loop:codeAny (model X.prog X.w) X.A (.compLoop (.ListComp elt [⟨tg,iter,ifs,0⟩] scope pos) 0 (.ref it) (.ref D) (compEnvC scope (tV X.env scope.names) C X.env)) (RR (.ref D) C) { s₂ with heap:=h₁,toks:=s₂.toks+([]:List (Str×Value)).length }:=by
  refine aD6 (fun n s'=>∃ i ys σ' H' its,bC (cV X N' scope C s₂ H₂ fp) [] σ' H' s'/\tn i s'.heap/\(∀ b∈fp,H' b=none)/\H' D=none/\s'.heap.PlainList D its.toArray/\bN ys its/\W i n ys σ' H') ?_ m0
   ⟨0,[],_,H₂,[],J1,T.keep _ _ _ st2 fun b _ o e=>keepOld b o e,fun b hb=>(f2 b hb).1,I2.hok.fresh geD,accNew,.nil,w0⟩
  rintro n s3 ⟨i,ys,σ3,H3,its,I3,st3,fr3,dn3,pl3,rv3,w3⟩
  obtain ⟨nn3,hob3⟩:=id pl3
  have oD:∀ b∈[D],∃ o,s3.heap.get? b=some o/\∀ v,o.data≠ .cell v:=fun b hb=>by
   have e:b=D:=by simpa using hb
   subst e
   exact ⟨_,hob3,fun v z=>by cases z⟩
  have I3':bC (cV X N' scope C s₂ H₂ fp) (iH [D] s3.heap) σ3 H3 s3:=by
   have:=I3.pinned (dpk dn3) oD
   simpa using this
  have pD:(D,({ cls:= .type "list",data:= .seq its.toArray nn3 }:Obj))∈iH [D] s3.heap:=iB (by simp) hob3
  have npD:∀ p∈iH [D] s3.heap,p.1∉fp:=fun p hp z=>by
   have e:p.1=D:=by simpa using (sJ hp).1
   exact hfD _ z e
  obtain ⟨hys,tt⟩:=turn i n ys σ3 H3 w3
  rcases tt with ⟨stop,qn⟩ | ⟨go,N,hN,step⟩
  ·refine di (T.done (cV X N' scope C s₂ H₂ fp) rfl rfl rfl hc i (iH [D] s3.heap) s3 σ3 H3 (fun _ _=>False) I3' (fpk fr3 npD) st3 stop) (fun r s4 ⟨hr,I4⟩=>?_) fun _ _ z=>z
   subst hr
   have g4:=(I4.pin _ (cw _ pD)).1
   refine hR _ _ _ ⟨D,H3,ys,rfl,dn3,yL I2 f2 geC geD I4 dn3 ⟨nn3,g4⟩ rv3 (bu hys),?_,?_,neDC,?_,?_,?_,?_,qn⟩
   ·obtain ⟨m,hm,_⟩:=I4.loc
    exact ⟨m,hm⟩
   ·exact I4.free
   ·exact jh (bv I2.lt geC)
   ·exact cj I2.sz geC
   ·intro x c e z
    obtain ⟨v,q⟩:=I2.cell x c e
    exact absurd (bv q.lt geC) (by rw [z];exact ef _)
   ·intro p hp z
    exact absurd (bv (aq (I2.pin p hp).1) geC) (by rw [z];exact ef _)
  ·refine di (T.item (cV X N' scope C s₂ H₂ fp) rfl rfl rfl hc i (iH [D] s3.heap) s3 σ3 H3 (fun _ _=>False) I3' (fpk fr3 npD) st3 go) (fun r s4 ⟨u,hr,h4⟩=>?_) fun _ _ z=>z
   subst hr
   refine di h4 (?_) fun _ _ z=>z;rintro _ s5 ⟨x,H5,I5,r5,y5,st5,fr5⟩
   have I5':=I5.pinned (fpk fr5 npD) (T.obj _ _ st5)
   refine di (hg C s₂ H₂ fp _ s5 σ3 H5 x u _ I5' r5 (step x H5 y5)) (?_) fun _ _ z=>z;rintro _ s6 ⟨σ6,H6,I6,q6⟩
   refine di (ht C s₂ H₂ fp _ s6 σ6 H6 _ I6 q6) (?_) fun _ _ z=>z;rintro b s7 ⟨H7,I7,q7⟩
   have fin:∀ {s8:Shared}{σ8:St}{H8:Hp},bC (cV X N' scope C s₂ H₂ fp) (iH [D] s3.heap++iH fp s5.heap) σ8 H8 s8->s8.heap.get? D=some { cls:= .type "list",data:= .seq its.toArray nn3 }/\H8 D=none /\
     tn (i+1) s8.heap/\∀ b∈fp,H8 b=none:=fun {s8 σ8 H8} I8=>by
    have q:=I8.pin _ (cw _ (fg _ pD))
    refine ⟨q.1,q.2.1,T.keep _ _ _ st5 fun b hb o e=>(I8.pin (b,o) (cw _ (cw _ (iB hb e)))).1,fun b hb=>?_⟩
    obtain ⟨o,e,d⟩:=T.obj _ _ st5 b hb
    exact (I8.pin (b,o) (cw _ (cw _ (iB hb e)))).2.1
   cases b with
   |false =>
    obtain ⟨m',hm,w7⟩:=hN _ _ _ q7
    obtain ⟨a1,a2,a3,a4⟩:=fin I7
    exact ⟨m',hm,i+1,ys,σ6,H7,its,I7.pins_of fun p hp=>absurd hp (by simp),a3,a4,a2,⟨nn3,a1⟩,rv3,w7⟩
   |true =>
    refine di (he C s₂ H₂ fp _ s7 σ6 H7 _ I7 q7) (?_) fun _ _ z=>z;rintro v s8 ⟨y,H8,I8,r8,n8⟩
    obtain ⟨m',hm,w8⟩:=hN _ _ _ n8
    obtain ⟨a1,a2,a3,a4⟩:=fin I8
    have hsz:its.toArray.size<=sizeLine:=by
     have:=rv3.length
     rw [bj]
     lia
    refine wpAny_list_append_plain (hsz:=hsz) ⟨nn3,a1⟩ fun h9 hl9 hs9=>?_
    have I9:bC (cV X N' scope C s₂ H₂ fp) [] σ6 H8 { s8 with heap:=h9 } :=
     (I8.pins_of (pins':=[]) fun p hp=>absurd hp (by simp)).turned (t':=s8.toks) (fun b o hb e=>(hs9.2 b hb).trans e) a2 neDC (.inr geD) (fun x c e=>(cOf x c e).1) fun p hp=>absurd hp (by simp [cV])
    refine ⟨m',hm,i+1,ys++[y],σ6,H8,its++[v],I9,T.keep _ _ _ a3 fun b hb o e=>(hs9.2 b (hfD b hb)).trans e,a4,a2,?_,rv3.append (.cons r8 .nil),w8⟩
    have e:(its++[v]).toArray=its.toArray.push v:=by simp
    rw [e];exact hl9
 exact codeAny_compStart_list loop (T.self _ 0 _ _ _ (T.keep _ _ _ st2 fun b _ o e=>keepOld b o e) loop)
theorem cQ (N':List Str) (ix:List (Option Nat)) (hi:PI X tg iter wi) (hg:∀ C s₂ H₂ fp,PG (cV X N' scope C s₂ H₂ fp) tg g) (ht:∀ C s₂ H₂ fp,aM8 (cV X N' scope C s₂ H₂ fp) ifs tc)
  (he:∀ C s₂ H₂ fp,PE (cV X N' scope C s₂ H₂ fp) elt te) (S:autoParam (tZ X.N X.env.scope scope N' ix=true) Rq0._auto_1) (hc:autoParam (X.calm=true) Rq0._auto_1) (hs:autoParam (∀ x,foldedSetIterable iter X.env x=pure x) Rq6._auto_1) :
  PE X (.ListComp elt [⟨tg,iter,ifs,0⟩] scope pos) (aX2 wi ix g tc te):=by
 intro pins s σ H Q I h
 have S:=hZ.of S
 rw [eval_ListComp]
 refine sf (use:=none) (cl:=tV X.env scope.names) rfl hs (pQ fun y hy e=>I.ok.has y.1 (S.free y hy e)) S.kind S.loc (dJ (hi pins s σ H _ I h) fun xv s₁ h₁=>dJ h₁ fun itv s₂ h₂=>?_)
 obtain ⟨it,fp,tn,J,H₂,rfl,I2,T,st2,f2,w⟩:=h₂
 refine sU (RR:=fun acc C=>compPost (model X.prog X.w) X.A X.xe none (EP X pins σ Q) acc C) S hc hg ht he I2 T st2 f2 w fun acc C s' ce=>?_
 obtain ⟨D,H',ys,rfl,dn,J',hm,cn,dc,c1,c2,c3,c4,kf⟩:=ce
 obtain ⟨m,hm⟩:=hm
 refine ⟨m,hm,fun h' hs'=>⟨.ref D,_,J'.turned (t':=s'.toks) (fun b o hb e=>(hs'.2 b hb).trans e) (by rw [aH dc.symm];exact cn) c1 (.inr c2) c3 c4,rfl,kf D dn⟩⟩
theorem oX (N':List Str) (ix:List (Option Nat)) {i:Nat}{x:Str}{pos' spos:Pos}(hN:X.N.Nodup) (hxi:X.N[i]?=some x) (hx:Loc X.env.scope x) (hi:PI X tg iter wi) (hg:∀ C s₂ H₂ fp,PG (cV X N' scope C s₂ H₂ fp) tg g) (ht:∀ C s₂ H₂ fp,aM8 (cV X N' scope C s₂ H₂ fp) ifs tc)
  (he:∀ C s₂ H₂ fp,PE (cV X N' scope C s₂ H₂ fp) elt te) (S:autoParam (tZ X.N X.env.scope scope N' ix=true) Rq0._auto_1) (hc:autoParam (X.calm=true) Rq0._auto_1) (hs:autoParam (∀ x,foldedSetIterable iter X.env x=pure x) Rq6._auto_1)
  (hsw:autoParam (swapsWith (.ListComp elt [⟨tg,iter,ifs,0⟩] scope pos) (some (.Name x pos')) spos.line X.env=pure true) Rq0._auto_1) (hf:autoParam (X.fn x=true\/X.env.scope.names.lookup x=some .local) Rq3._auto_1) :
  PS X (.Assign [.Name x pos'] (.ListComp elt [⟨tg,iter,ifs,0⟩] scope pos) spos) (aL3 (aX2 wi ix g tc te) (tE i)):=by
 intro pins s σ H D I h
 have S:=hZ.of S
 rw [exec_Assign_Name_used _ _ _ _ hsw]
 refine ac (nj (ac ?_))
 show wpAny _ X.A (do let _ <- comprehension (.ListComp elt [⟨tg,iter,ifs,0⟩] scope pos) scope X.env _ (newList []) false (eval iter X.env) (some (assign (.Name x pos') X.env))) _ _ s
 refine ac (di (sf (use:=some (assign (.Name x pos') X.env)) (cl:=tV X.env scope.names) (Q:=fun _ s'=>SP X pins D .next s') rfl hs (pQ fun y hy e=>I.ok.has y.1 (S.free y hy e)) S.kind S.loc
  (dJ (hi pins s σ H _ I h) fun xv s₁ h₁=>dJ h₁ fun itv s₂ h₂=>?_)) (fun _ s' hq=>ao (ao hq)) fun _ _ e=>e)
 obtain ⟨it,fp,tn,J,H₂,rfl,I2,T,st2,f2,w⟩:=h₂
 refine sU (RR:=fun acc C=>compPost (model X.prog X.w) X.A X.xe (some (assign (.Name x pos') X.env)) (fun _ s'=>SP X pins D .next s') acc C) S hc hg ht he I2 T st2 f2 w fun acc C s' ce=>?_
 obtain ⟨D',H',ys,rfl,dn,J',hm,cn,dc,c1,c2,c3,c4,kf⟩:=ce
 obtain ⟨m,hm⟩:=hm
 show wpAny _ X.A (assign (.Name x pos') X.env (.ref D')) _ _ _
 refine xf (rP (v:= .ref D') J' hN hxi hx rfl (fun s2 J2 hsb=>?_) hf)
 obtain ⟨a,hsb,ha⟩:=hsb
 have hCa:C≠a:=by
  rcases ha with z | z
  ·rw [z];exact c1
  ·exact (c3 x a z).symm
 refine ⟨m,hm.sameBut hsb hCa,fun h' hs'=>?_⟩
 exact ⟨_,_,J2.turned (t':=s2.toks) (fun b o hb e=>(hs'.2 b hb).trans e) (by rw [aH dc.symm];exact cn) c1 (.inr c2) c3 c4,kf D' dn⟩
theorem cO {K:PySem.W.Frag}{a:Addr}{xs:List V}{Kf:List V->Hp->Prop}{σ0:St}{H1:Hp}(Pv:Nat->List V->St->Hp->Prop) (hz:xs.length < sizeLine) (h0:Pv 0 [] σ0 H1) (hb:∀ i ys σ H,Pv i ys σ H->ys.length<=i) (hl:∀ i ys σ H,i<=xs.length->Pv i ys σ H->bI K H a xs)
  (hs:∀ i x ys σ H,xs[i]?=some x->Pv i ys σ H->g x σ H fun σ2 H2=>tc σ2 H2 fun b H3=>if b=true then te σ2 H3 fun y H4=>Pv (i+1) (ys++[y]) σ2 H4 else Pv (i+1) ys σ2 H3) (hd:∀ ys σ H,Pv xs.length ys σ H->Kf ys H):qI (Itl K a) g tc te Kf σ0 H1:=by
 refine ⟨fun i m ys σ H=>m=xs.length - i/\i<=xs.length/\Pv i ys σ H,⟨xs.length,by simp,av _,h0⟩,?_⟩
 rintro i m ys σ H ⟨rfl,hi,p⟩
 have q:=hl i ys σ H hi p
 refine ⟨dz (hb _ _ _ _ p) (dz hi hz),?_⟩
 by_cases hlt:i < xs.length
 ·refine .inr ⟨⟨xs,xs[i],q,by simp [hlt]⟩,Pv (i+1),fun ys' σ' H' p'=>⟨xs.length - (i+1),fi hlt (ej i),rfl,hlt,p'⟩,fun x H' y=>?_⟩
  obtain ⟨e,y⟩:=y
  subst e
  exact hs i x ys σ _ (y xs q) p
 ·have e:i=xs.length:=by lia
  subst e
  exact .inl ⟨⟨xs,q,ai _⟩,hd ys σ H p⟩
theorem gL {K:PySem.W.Frag}{a:Addr}{xs:List V}{Kf:List V->Hp->Prop}{σ0:St}{H1:Hp}(Pv:Nat->List V->St->Hp->Prop) (hz:xs.length < sizeLine) (h0:Pv 0 [] σ0 H1) (hb:∀ i ys σ H,Pv i ys σ H->ys.length<=i) (hl:∀ i ys σ H,i<=xs.length->Pv i ys σ H->aQ K H a xs)
  (hs:∀ i x ys σ H,xs[i]?=some x->Pv i ys σ H->g x σ H fun σ2 H2=>tc σ2 H2 fun b H3=>if b=true then te σ2 H3 fun y H4=>Pv (i+1) (ys++[y]) σ2 H4 else Pv (i+1) ys σ2 H3) (hd:∀ ys σ H,Pv xs.length ys σ H->Kf ys H):qI (Itt K a) g tc te Kf σ0 H1:=by
 refine ⟨fun i m ys σ H=>m=xs.length - i/\i<=xs.length/\Pv i ys σ H,⟨xs.length,by simp,av _,h0⟩,?_⟩
 rintro i m ys σ H ⟨rfl,hi,p⟩
 have q:=hl i ys σ H hi p
 refine ⟨dz (hb _ _ _ _ p) (dz hi hz),?_⟩
 by_cases hlt:i < xs.length
 ·refine .inr ⟨⟨xs,xs[i],q,by simp [hlt]⟩,Pv (i+1),fun ys' σ' H' p'=>⟨xs.length - (i+1),fi hlt (ej i),rfl,hlt,p'⟩,fun x H' y=>?_⟩
  obtain ⟨e,y⟩:=y
  subst e
  exact hs i x ys σ _ (y xs q) p
 ·have e:i=xs.length:=by lia
  subst e
  exact .inl ⟨⟨xs,q,ai _⟩,hd ys σ H p⟩
theorem jF {lo:Int}{n:Nat}{Kf:List V->Hp->Prop}{σ0:St}{H1:Hp}(Pv:Nat->List V->St->Hp->Prop) (hz:n < sizeLine) (h0:Pv 0 [] σ0 H1) (hb:∀ i ys σ H,Pv i ys σ H->ys.length<=i)
  (hs:∀ i ys σ H,i < n->Pv i ys σ H->g (.int (lo+i)) σ H fun σ2 H2=>tc σ2 H2 fun b H3=>if b=true then te σ2 H3 fun y H4=>Pv (i+1) (ys++[y]) σ2 H4 else Pv (i+1) ys σ2 H3) (hd:∀ ys σ H,Pv n ys σ H->Kf ys H):qI (Itr lo n) g tc te Kf σ0 H1:=by
 refine ⟨fun i m ys σ H=>m=n - i/\i<=n/\Pv i ys σ H,⟨n,by simp,av _,h0⟩,?_⟩
 rintro i m ys σ H ⟨rfl,hi,p⟩
 refine ⟨dz (hb _ _ _ _ p) (dz hi hz),?_⟩
 by_cases hlt:i < n
 ·refine .inr ⟨hlt,Pv (i+1),fun ys' σ' H' p'=>⟨n - (i+1),fi hlt (ej i),rfl,hlt,p'⟩,fun x H' y=>?_⟩
  obtain ⟨e,y⟩:=y
  subst e y
  exact hs i ys σ _ hlt p
 ·have e:i=n:=by lia
  subst e
  exact .inl ⟨ai _,hd ys σ H p⟩
end
theorem aH7:typeLookup (.type "list_reverseiterator") "__len__"=pure none:=by rw [typeLookup_type,ut];kernel_rfl
theorem aQ6:typeLookup (.type "list_reverseiterator") "__length_hint__"=pure (some (.builtin "list_reverseiterator.__length_hint__")):=by rw [typeLookup_type,ut];kernel_rfl
abbrev newL:Obj:={ cls:= .type "list",data:= .seq #[] }
section
variable {prog:Program}{w:World}{A:Around}{E:Value->Shared->Prop}{Q:Value->Shared->Prop}{s:Shared}{it p:Addr}{items:Array Value}
theorem wX (hh:A.handled=none) (ne:p≠it) (hi:s.heap.IsRevIter it p ((items.size:Int) - 1)) (hp:s.heap.IsList p items) (hz:items.size<=sizeLine)
  (k:∀ t got c,(∀ b o,b≠it->s.heap.get? b=some o->t.heap.get? b=some o)->t.gens=s.gens->t.os=s.os ->
   t.heap.get? s.heap.objs.size=some { cls:= .type "list",dict:=none,data:= .seq got c,slots:= #[] }->got.toList=items.toList.reverse->Q (.ref s.heap.objs.size) t) :
  wpAny (model prog w) A (call (.type "list") [.ref it]) Q E s:=by
 let W:=(vt (prog:=prog) (w:=w) (A:=A.in1.in1) hh it p ne items).toS
 have st0:0<=items.size/\s.heap.IsRevIter it p ((items.size:Int) - 1 - ((0:Nat):Int))/\s.heap.IsList p items:=⟨av _,by simpa using hi,hp⟩
 have itLt:it < s.heap.objs.size:=by
  obtain ⟨o,e,_⟩:=hi
  exact aq e
 have pLt:p < s.heap.objs.size:=by
  obtain ⟨o,e,_⟩:=hp
  exact aq e
 have fresh:s.heap.objs.size∉[it,p]:=fun m=>by
  rcases cq.mp m with z | z
  ·exact ef _ (z ▸ itLt)
  ·exact ef _ ((dq.mp z) ▸ pLt)
 have neS:s.heap.objs.size≠it:=fun z=>fresh (by rw [z];exact bh)
 refine callType_codes (Q₁:=fun o t=>o= .ref s.heap.objs.size/\t={ s with heap:=s.heap.push newL }) F.called_list (F.typeCall_list_1 _) F.entry_list_init (code_list_new _ ⟨rfl,rfl⟩) ?_
 rintro _ _ ⟨rfl,rfl⟩
 have hS:(s.heap.push newL).get? s.heap.objs.size=some newL:=br _ rfl
 refine ⟨⟨_,hS,rfl⟩,F.args_list_init_2 _ _,?_⟩
 refine ac (m:=Builtin.List.listItems (.ref s.heap.objs.size)) (ac (jy hS rfl (ao ?_)))
 refine ac (m:=updateSeq s.heap.objs.size fun _=> #[]) (oy hS rfl (ac (qo ?_)))
 have hS2:=eo (Obj.mapSeq fun _=>(#[]:Array Value)) hS rfl
 have older:∀ b o,s.heap.get? b=some o->((s.heap.push newL).update s.heap.objs.size (Obj.mapSeq fun _=>(#[]:Array Value))).get? b=some o:=fun b o e =>
  (fh _ _ (jh (aq e))).trans (ah _ e)
 have st1:=W.frame 0 s ((s.heap.push newL).update s.heap.objs.size (Obj.mapSeq fun _=>(#[]:Array Value))) s.toks st0 (ai _) fun b _ o e=>older b o e
 have ty:∀ i t,(fun (i:Nat) (t:Shared)=>i<=items.size/\t.heap.IsRevIter it p ((items.size:Int) - 1 - (i:Int))/\t.heap.IsList p items) i t->t.TypeIs (.ref it) "list_reverseiterator":=fun i t z=>z.2.1.typeIs
 unfold Builtin.List.listExtendWith
 refine ac (ot (ty 0 _ st1) ?_)
 have same:Builtin.List.listSameRef (.ref s.heap.objs.size) (.ref it)=false:=by simp [Builtin.List.listSameRef,neS]
 rw [ar (by rw [same];decide)]
 refine ac (W.self 0 _ _ _ st1 (ac (gw ?_)))
 unfold Builtin.List.listLengthHint
 refine ac (ua (ty 0 _ st1) aH7 ?_)
 refine ac (m:=specialOf (Value.ref it) (Str.ofString "__length_hint__")) (ua (ty 0 _ st1) aQ6 ?_)
 generalize hid:("list_reverseiterator.__length_hint__": String)=id0
 wp_delta
 rw [show splitId id0=some ("list_reverseiterator","__length_hint__") from by subst hid;decide +kernel]
 subst hid
 refine ac (ye (b:=true) (ty 0 _ st1) (by rw [uv];kernel_rfl) (ao ?_))
 rw [ar (by decide)]
 refine ao ⟨kq F.plain_extend_loop _,codeAny_extend_loopS W hz _ fresh _ items.size 0 _ _ _ rfl (av _) st1 hS2 (ItemsOf.nil _) fun t got c mv at' its=>⟨rfl,?_⟩⟩
 refine k t got c (fun b o hb e=>mv.heap b o (fun m=>?_) (older b o e)) mv.gens mv.os at' ?_
 ·rcases cq.mp m with z | z
  ·exact absurd (aq e) (by rw [z];exact ef _)
  ·exact hb (dq.mp z)
 ·obtain ⟨len,each⟩:=its
  refine List.ext_getElem? fun j=>?_
  by_cases hj:j < items.size
  ·have g:got[j]?=some got[j]:=Array.getElem?_eq_getElem (by lia)
   rw [uw (by simpa using hj),jx,jx,g, <- each j _ g]
   simp
  ·rw [ux (by simp;lia),ux (by simp;lia)]
end
def aO0 (K:PySem.W.Frag) (te:TE):TE:=fun σ H Q=>te σ H fun x H1=>∃ a ys,x= .ref a/\bI K H1 a ys/\∀ l,H1 l=none->Q (.ref l) (aJ H1 l (.lst ys.reverse))
theorem xH {X:Cx}{e:Expr}{te:TE}{p1 p2 pos1 pos2:Pos}(he:PE X e te) (g1:Gl X "list") (m1:X.mg "list"=none) (g2:Gl X "reversed") (m2:X.mg "reversed"=none) (hc:autoParam (X.calm=true) Rq0._auto_1)
  (hs1:autoParam (starEach [.Call (.Name "reversed" p2) [e] [] pos2] X.env=[(false,eval (.Call (.Name "reversed" p2) [e] [] pos2) X.env)]) Rq0._auto_1) (hs2:autoParam (starEach [e] X.env=[(false,eval e X.env)]) Rq0._auto_1) :
  PE X (.Call (.Name "list" p1) [.Call (.Name "reversed" p2) [e] [] pos2] [] pos1) (aO0 X.K te):=by
 intro pins s σ H Q I h
 refine gu (kD I g1 m1 PyProof.Rows.boot_list ?_)
 refine ge ?_ hs1 rfl
 rw [hs1]
 refine jn (gu (kD I g2 m2 qy ?_))
 refine ge ?_ hs2 rfl
 rw [hs2]
 refine jn (dJ (he pins s σ H _ I h) ?_);rintro u s1 ⟨x,H1,I1,r1,a,ys,ex,hq,q⟩;refine js ?_
 subst ex
 cases r1
 obtain ⟨its,rv,pl,hz⟩:=I1.list hq
 have il:=pl.isList
 refine wv il (js ?_)
 have I2:bC X pins σ H1 { s1 with heap:=s1.heap.push (revObj a ((its.toArray.size:Int) - 1)) }:=I1.kept (t':=s1.toks) fun b o e=>ah _ e
 have aLt:a < s1.heap.objs.size:=by
  obtain ⟨o,e,_⟩:=il
  exact aq e
 have len:=rv.length
 obtain ⟨f0,f1,f2,f3,f4,f5⟩:mH X pins H1 s1.heap.objs.size:=I1.fpOk (ai _) (I1.hok.fresh (ai _))
 refine wX (p:=a) (items:=its.toArray) (I.ok.hd hc) (cg aLt) ⟨_,br _ rfl,rfl,rfl⟩ (il.at fun o e=>ah _ e) (by rw [bj];(exact oqN)) ?_
 intro t got c keep gens os at' eg
 obtain ⟨D,eD⟩:∃ D,(s1.heap.push (revObj a ((its.toArray.size:Int) - 1))).objs.size=D:=⟨_,rfl⟩
 have hD:(s1.heap.push (revObj a ((its.toArray.size:Int) - 1))).objs.size<=D:=Nat.le_of_eq eD
 dsimp only at at' ⊢
 rw [eD] at at' ⊢
 have fD:H1 D=none:=I2.hok.fresh hD
 have neT:∀ b u,H1 b=some u->b≠s1.heap.objs.size:=fun b u e z=>by rw [z,f0] at e;cases e
 refine ⟨.ref D,aJ H1 D (.lst ys.reverse),I2.call' (ch:=[s1.heap.objs.size]) os ⟨fun b o e n _ hx=>keep b o (fun z=>hx (by simp [z])) e,fun b o e n _ hx=>⟨o.slots,keep b o (fun z=>hx (by simp [z])) e⟩,fun b o e n _=>?_,fun b o e hx=>⟨o,keep b o (fun z=>hx (by simp [z])) e⟩,fun b xs e=>?_,fun b o u e=>?_,fun b ps e=>⟨#[],?_⟩⟩ (fun b u e=>?_) (by rw [gens];exact I2.bare) (fun b hb=>?_),rfl,q D fD⟩
 ·rw [aH (fun z=>absurd (aq e) (by rw [z];exact rj.mpr hD))];exact n
 ·rw [aH (aK e fD)];exact e
 ·rw [aH (aK e fD)];exact e
 ·rw [aH (aK e fD),e];simp
 ·by_cases hb:b=D
  ·subst hb
   rw [aC] at e
   cases e
   have at2:t.heap.get? b=some { cls:= .type "list",dict:=none,data:= .seq its.reverse.toArray c,slots:= #[] }:=by
    rw [at', <- Array.toArray_toList (xs:=got),eg]
   exact ⟨by rw [ek];exact hz,its.reverse,c,bN.reverse rv,at2⟩
  ·rw [aH hb] at e
   refine (I2.hok b u e).stay (fun c' v hc' q'=>keep c' v ?_ q') (fun c' q'=>by rw [aH (aK q' fD)];exact q') fun c' xs q'=>by rw [aH (aK q' fD)];exact q'
   rcases hc' with z | z
   ·rw [z];exact neT b u e
   ·exact neT c' _ z
 ·have z:b=s1.heap.objs.size:=by simpa using hb
  subst z
  exact ⟨f3,f1,f4,f5⟩
def bP7 (i j:Int):Prop:=0 < j/\j < 2 ^ 250
theorem aI2 {X:Cx}:jX X (binaryOp .FloorDiv) (rI bP7 fun i j=> .int (i / j)):=opI fun i j _ _ _ _ _ hc q=>by
 obtain ⟨h0,h1⟩:=hc
 refine floordiv_int (by (exact oqt)) ?_ (.inl (PyProof.noPylong_of_log2 ?_))
 ·rw [Int.fdiv_eq_ediv_of_nonneg i (by (exact sh ‹_›))];exact q
 ·have h2:j.natAbs < 2 ^ 250:=by
   have e:((j.natAbs:Nat):Int)=j:=Int.natAbs_of_nonneg (by (exact sh ‹_›))
   have:((j.natAbs:Nat):Int) < ((2 ^ 250:Nat):Int):=by rw [e];exact_mod_cast h1
   exact Int.ofNat_lt.mp this
  have h3:j.natAbs≠0:=by lia
  have h4:j.natAbs.log2 < 250:=(Nat.log2_lt h3).mpr h2
  exact bv h4 (by decide)
def eX (sd n:Int) (l:Addr):List (Key×V):=[(.inr "seed",.int sd),(.inr "number",.int n),(.inr "left",.ref l)]
theorem ksn:¬ ((Sum.inr ("seed": Str):Key)=Sum.inr ("number": Str)):=by decide +kernel
theorem ksl:¬ ((Sum.inr ("seed": Str):Key)=Sum.inr ("left": Str)):=by decide +kernel
theorem knl:¬ ((Sum.inr ("number": Str):Key)=Sum.inr ("left": Str)):=by decide +kernel
theorem kns:¬ ((Sum.inr ("number": Str):Key)=Sum.inr ("seed": Str)):=by decide +kernel
theorem kls:¬ ((Sum.inr ("left": Str):Key)=Sum.inr ("seed": Str)):=by decide +kernel
theorem kln:¬ ((Sum.inr ("left": Str):Key)=Sum.inr ("number": Str)):=by decide +kernel
theorem aD8 (sd n:Int) (l:Addr):fG (eX sd n l) (Sum.inr "seed": Key)=some (.int sd):=by unfold eX;rw [cZ rfl]
theorem vU (sd n:Int) (l:Addr):fG (eX sd n l) (Sum.inr "number": Key)=some (.int n):=by unfold eX;rw [cC ksn,cZ rfl]
theorem aC0 (sd n:Int) (l:Addr):fG (eX sd n l) (Sum.inr "left": Key)=some (.ref l):=by unfold eX;rw [cC ksl,cC knl,cZ rfl]
theorem aK1 (sd n v:Int) (l:Addr):fH (eX sd n l) (Sum.inr "seed": Key) (.int v)=eX v n l:=by
 unfold fH eX
 simp
 exact ⟨fun z=>absurd (dg Sum.inr z) kns,fun z=>absurd (dg Sum.inr z) kls⟩
theorem xO (sd n v:Int) (l:Addr):fH (eX sd n l) (Sum.inr "number": Key) (.int v)=eX sd v l:=by
 unfold fH eX
 simp
 exact ⟨fun z=>absurd (dg Sum.inr z) ksn,fun z=>absurd (dg Sum.inr z) kln⟩
structure cP (H:Hp) (d l:Addr) (sd n:Int) (ls:List Int):Prop where
 dc:H d=some (.dK (eX sd n l))
 lc:H l=some (.lst (ls.map V.int))
 s0:0<=sd
 s1:sd < 2147483647
 n0:0<=n
 l0:∀ x∈ls,0<=x
def cS (H:Hp) (d l:Addr):Prop:=∃ sd n ls,cP H d l sd n ls
theorem cP.ne {H:Hp}{d l:Addr}{sd n:Int}{ls:List Int}(D:cP H d l sd n ls):d≠l:=jE D.dc D.lc (by intro z;cases z)
def dZ (d l:Addr) (H H':Hp):Prop:=∀ b o,H b=some o->b≠d->b≠l->H' b=some o
theorem dZ.refl {d l:Addr}(H:Hp):dZ d l H H:=fun _ _ e _ _=>e
theorem dZ.trans {d l:Addr}{H H1 H2:Hp}(a:dZ d l H H1) (b:dZ d l H1 H2):dZ d l H H2:=fun c o e h1 h2=>b c o (a c o e h1 h2) h1 h2
theorem dZ.of {d l:Addr}{H H':Hp}(s:bB H H'):dZ d l H H':=fun c o e _ _=>s c o e
theorem dZ.upd_d {d l:Addr}{H:Hp}{o:HO}:dZ d l H (aJ H d o):=fun b u e h1 _=>by rw [aH h1];exact e
theorem dZ.upd_l {d l:Addr}{H:Hp}{o:HO}:dZ d l H (aJ H l o):=fun b u e _ h1=>by rw [aH h1];exact e
theorem aA {H:Hp}{p:Addr}(h:H p=none) (o:HO):bB H (aJ H p o):=fun b u q=>by rw [aH (aK q h)];exact q
theorem cP.seed {H:Hp}{d l:Addr}{sd n:Int}{ls:List Int}(D:cP H d l sd n ls) {v:Int}(h0:0<=v) (h1:v < 2147483647):cP (aJ H d (.dK (eX v n l))) d l v n ls :=
 ⟨aC,by rw [aH D.ne.symm];exact D.lc,h0,h1,D.n0,D.l0⟩
theorem cP.number {H:Hp}{d l:Addr}{sd n:Int}{ls:List Int}(D:cP H d l sd n ls) {v:Int}(h0:0<=v):cP (aJ H d (.dK (eX sd v l))) d l sd v ls :=
 ⟨aC,by rw [aH D.ne.symm];exact D.lc,D.s0,D.s1,h0,D.l0⟩
theorem cP.left {H:Hp}{d l:Addr}{sd n:Int}{ls ls':List Int}(D:cP H d l sd n ls) (h:∀ x∈ls',0<=x):cP (aJ H l (.lst (ls'.map V.int))) d l sd n ls' :=
 ⟨by rw [aH D.ne];exact D.dc,aC,D.s0,D.s1,D.n0,h⟩
theorem cP.out {H H':Hp}{d l:Addr}{sd n:Int}{ls:List Int}(D:cP H d l sd n ls) (s:bB H H'):cP H' d l sd n ls:=⟨s _ _ D.dc,s _ _ D.lc,D.s0,D.s1,D.n0,D.l0⟩
theorem cS.same {H H':Hp}{d l:Addr}(D:cS H d l) (s:bB H H'):cS H' d l:=by obtain ⟨sd,n,ls,q⟩:=D;exact ⟨sd,n,ls,q.out s⟩
theorem cP.gs {H:Hp}{d l:Addr}{sd n:Int}{ls:List Int}(D:cP H d l sd n ls):iS H d (.str "seed") (some (.int sd)):=by rw [<- aD8 sd n l];exact iS.k (k:=Sum.inr "seed") D.dc
theorem cP.gn {H:Hp}{d l:Addr}{sd n:Int}{ls:List Int}(D:cP H d l sd n ls):iS H d (.str "number") (some (.int n)):=by rw [<- vU sd n l];exact iS.k (k:=Sum.inr "number") D.dc
theorem cP.gl {H:Hp}{d l:Addr}{sd n:Int}{ls:List Int}(D:cP H d l sd n ls):iS H d (.str "left") (some (.ref l)):=by rw [<- aC0 sd n l];exact iS.k (k:=Sum.inr "left") D.dc
theorem cP.ps {H:Hp}{d l:Addr}{sd n:Int}{ls:List Int}(D:cP H d l sd n ls) (v:Int):oV H d (.str "seed") (.int v) (aJ H d (.dK (eX v n l))):=by
 rw [<- aK1 sd n v l];exact oV.k (k:=Sum.inr "seed") D.dc (bL (by show 3<=1000;decide))
theorem cP.pn {H:Hp}{d l:Addr}{sd n:Int}{ls:List Int}(D:cP H d l sd n ls) (v:Int):oV H d (.str "number") (.int v) (aJ H d (.dK (eX sd v l))):=by
 rw [<- xO sd n v l];exact oV.k (k:=Sum.inr "number") D.dc (bL (by show 3<=1000;decide))
def spDraw:Sp:=fun vs H Q _=>∃ (d l:Addr) (m:Int),vs=[.ref d,.int m]/\cS H d l/\0 < m/\m < 2 ^ 64 /\
 ∀ (r:Int) (H':Hp),0<=r->r < m->cS H' d l->dZ d l H H'->Q (.int r) H'
def aK0 (K:PySem.W.Frag):Sp:=fun vs H Q _=>∃ (a:Addr) (ns:List Int) (b:Int),vs=[.ref a,.int b]/\bI K H a (ns.map V.int)/\ns.length<=63/\0<=b/\b<=1000 /\
 ∀ (d l:Addr) (H':Hp),H d=none->H l=none->cS H' d l->bB H H'->Q (.ref d) H'
theorem uJ {ns:List Int}{i:Nat}{y:V}(h:(ns.map V.int)[i]?=some y):∃ z,y=V.int z/\ns[i]?=some z:=by
 rw [dh] at h
 cases e:ns[i]? with
 |none=>rw [e] at h;cases h
 |some z=>rw [e] at h;exact ⟨z,(dk h).symm,rfl⟩
mutual
def wF (K:PySem.W.Frag) (H:Hp):PyData->V->Prop
 |.none,v=>v= .non
 |.bool b,v=>v= .bl b
 |.int i,v=>v= .int i
 |.str x,v=>v= .str x
 |.tuple ds,v=>∃ a vs,v= .ref a/\aQ K H a vs/\wO K H ds vs
 |.list ds,v=>∃ a vs,v= .ref a/\bI K H a vs/\wO K H ds vs
 |.dict _,_=>False
def wO (K:PySem.W.Frag) (H:Hp):List PyData->List V->Prop
 |[],vs=>vs=[]
 |d :: ds,vs=>∃ v r,vs=v :: r/\wF K H d v/\wO K H ds r
end
section
variable {X:Cx}{pins:List (Addr×Obj)}{σ: St}{H:Hp}{s:Shared}
mutual
theorem wF.reads (I:bC X pins σ H s):∀ (d:PyData) (v:V) (u:Value),wF X.K H d v->bX v u->∃ as,Reads s.heap u d as
 |.none,v,u,h,r=>by
  have h:v= .non:=h
  subst h;cases r;exact ⟨_,.none⟩
 |.bool b,v,u,h,r=>by
  have h:v= .bl b:=h
  subst h;cases r;exact ⟨_,.bool b⟩
 |.int i,v,u,h,r=>by
  have h:v= .int i:=h
  subst h;obtain ⟨t,rfl⟩:=r;exact ⟨_,.int i t⟩
 |.str x,v,u,h,r=>by
  have h:v= .str x:=h
  subst h;obtain ⟨t,rfl⟩:=r;exact ⟨_,.str x t⟩
 |.tuple ds,v,u,h,r=>by
  obtain ⟨a,vs,rfl,hs,hl⟩:=h
  cases r
  obtain ⟨its,rv,⟨o,ho,hc,n,hd⟩,_⟩:=I.tuple hs
  obtain ⟨as,ra⟩:=wO.reads I ds vs its hl rv
  exact ⟨_,.tuple ho hc hd (by simpa using ra)⟩
 |.list ds,v,u,h,r=>by
  obtain ⟨a,vs,rfl,hs,hl⟩:=h
  cases r
  obtain ⟨its,rv,pl,_⟩:=I.list hs
  obtain ⟨o,ho,hc,n,hd⟩:=pl.isList
  obtain ⟨as,ra⟩:=wO.reads I ds vs its hl rv
  exact ⟨_,.list ho hc hd (by simpa using ra)⟩
 |.dict _,v,u,h,r=>h.elim
theorem wO.reads (I:bC X pins σ H s):∀ (ds:List PyData) (vs:List V) (us:List Value),wO X.K H ds vs->bN vs us->∃ as,ReadsAll s.heap us ds as
 |[],vs,us,h,r=>by
  have h:vs=[]:=h
  subst h;cases r;exact ⟨_,.nil⟩
 |d :: ds,vs,us,h,r=>by
  obtain ⟨v,t,rfl,hd,ht⟩:=h
  cases r with
  |cons r1 r2 =>
   obtain ⟨as,ra⟩:=wF.reads I d v _ hd r1
   obtain ⟨bs,rb⟩:=wO.reads I ds t _ ht r2
   exact ⟨_,.cons ra rb⟩
end
end
section
variable {X:Cx}
def bV1 (K:PySem.W.Frag) (neg:Bool):R2:=fun x y H Q=>∃ d e,wF K H d x/\wF K H e y/\SeqAt.shaped d=true/\SeqAt.shaped e=true/\SeqAt.noMix d e=true/\Q (.bl (if neg then !Spec.same d e else Spec.same d e)) H
theorem aZ5 {k:Nat}(hr:eE k X.A):jX X (compareOp .NotEq) (bV1 X.K true):=by
 intro pins s σ H x y v u Q I rx ry h
 obtain ⟨d,e,hd,he,sd,se,mx,q⟩:=h
 obtain ⟨as,ra⟩:=wF.reads I d x v hd rx
 obtain ⟨bs,rb⟩:=wF.reads I e y u he ry
 exact ne_dataH_same ra rb sd se hr.units mx ⟨.bl _,H,I,rfl,q⟩
theorem wD:eM X (.builtin "isinstance") (fun xs H Q=>∃ x n t b,xs=[x,.ty n]/\mO X.K H x t/\PySem.W.kitOne X.K t (.type n)=some b/\Q (.bl b) H):=by
 intro pins s σ H xs us Q I r h
 obtain ⟨x,n,t,b,rfl,ty,e,q⟩:=h
 obtain ⟨u,w',rfl,ru,rw'⟩:=wY r
 cases rw'
 exact aC7 I ru ty e fun tk=>⟨.bl b,H,I.tok tk,rfl,q⟩
theorem aI4 (hc:autoParam (X.calm=true) Rq0._auto_1):eM X (.builtin "all") (fun xs H Q=>∃ (p:Addr) (bs:List Bool),xs=[.ref p]/\bI X.K H p (bs.map V.bl)/\Q (.bl (bs.all id)) H):=by
 intro pins s σ H xs us Q I r h
 obtain ⟨p,bs,rfl,hq,q⟩:=h
 obtain ⟨u,rfl,ru⟩:=iN r
 cases ru
 obtain ⟨its,rv,pl,hz⟩:=I.list hq
 have lp:p < s.heap.objs.size:=by
  obtain ⟨o,e,_⟩:=pl.isList
  exact aq e
 refine call_all_walk (jr pl.isList ⟨s.heap.objs.size,_,_,_,_,_,fun i=>bs.getD i true,rfl,vj (A:=X.A.in1) (I.ok.hd hc) s.heap.objs.size p (cg lp) its.toArray,⟨⟨_,br _ rfl,rfl,rfl⟩,pl.isList.at fun o e=>ah _ e⟩,?_,?_⟩)
 ·intro i v s1 Q1 E1 hv hq1
  have hi:its[i]?=some v:=by simpa using hv
  have hl:=rv.length
  rw [aa] at hl
  have hb:i < bs.length:=by
   have:=(az.mp hi).1
   lia
  obtain ⟨u,hu,ru⟩:=rv.get (i:=i) (x:=V.bl bs[i]) (by rw [dh,de hb];rfl)
  rw [hi] at hu
  cases hu
  cases ru
  have e:bs.getD i true=bs[i]:=by simp [List.getD,hb]
  dsimp only at hq1
  rw [e] at hq1
  exact dy hq1
 ·intro h' tk hk
  have kept:∀ b o,s.heap.get? b=some o->h'.get? b=some o:=fun b o e=>hk b o (by
   intro z
   have z:b=s.heap.objs.size:=by simpa using z
   exact absurd (aq e) (by rw [z];exact ef _)) (ah _ e)
  refine ⟨.bl (bs.all id),H,I.kept kept,?_,q⟩
  show Value.bool _=Value.bool _
  have hl:=rv.length
  rw [aa] at hl
  have e:((List.range its.toArray.size).all fun i=>bs.getD i true)=bs.all id:=by
   rw [bj, <- hl]
   clear q hq rv pl hk hz hl
   rw [ja,si,si]
   constructor
   ·intro h b hb
    obtain ⟨i,hi,e⟩:=wb hb
    have:=h i (me.mpr hi)
    simp [List.getD,hi] at this
    rw [<- e];exact this
   ·intro h i hi
    have hi:=me.mp hi
    simp [List.getD,hi]
    exact h _ (yf hi)
  rw [e]
end
section
variable {X:Cx}(K:PySem.W.Frag)
theorem aB0 (hK:autoParam (X.K=K) Rq0._auto_1):eM X (.builtin "isinstance") (fun xs H Q=>∃ x n t b,xs=[x,.ty n]/\mO K H x t/\PySem.W.kitOne K t (.type n)=some b/\Q (.bl b) H):=by subst hK;exact wD
theorem bQ1 (hK:autoParam (X.K=K) Rq0._auto_1):eM X (.builtin "len") (fun xs H Q=>∃ p ys,xs=[.ref p]/\(bI K H p ys\/aQ K H p ys)/\Q (.int ys.length) H):=by subst hK;exact aW
theorem bW2 (hK:autoParam (X.K=K) Rq0._auto_1):IxR X (bP2 K):=by subst hK;exact cY
theorem oR (hK:autoParam (X.K=K) Rq0._auto_1):IxR X (bL3 K):=by subst hK;exact aI
theorem inK (hK:autoParam (X.K=K) Rq0._auto_1):jX X (compareOp .In) (rIn K false):=by subst hK;exact cU
theorem bV0 (hK:autoParam (X.K=K) Rq0._auto_1):jX X (compareOp .NotIn) (rIn K true):=by subst hK;exact nJ
end
theorem bD {c A B:Prop} [Decidable c] (hc:c) (h:A):if c then A else B:=by rw [bc hc];exact h
theorem aR {c A B:Prop} [Decidable c] (hc:¬ c) (h:B):if c then A else B:=by rw [ar hc];exact h
theorem fL {α: Type}(v:α) (r:List α):oK (v :: r) 0=some v:=by
 have h:(0:Int) < ((v :: r).length:Int):=by simp
 unfold oK ixN
 rw [bc (by decide),bc h]
 rfl
section
variable {X:Cx}
theorem aI5 (hc:autoParam (X.calm=true) Rq0._auto_1):eM X (.builtin "any") (fun xs H Q=>∃ (p:Addr) (bs:List Bool),xs=[.ref p]/\bI X.K H p (bs.map V.bl)/\Q (.bl (bs.any id)) H):=by
 intro pins s σ H xs us Q I r h
 obtain ⟨p,bs,rfl,hq,q⟩:=h
 obtain ⟨u,rfl,ru⟩:=iN r
 cases ru
 obtain ⟨its,rv,pl,hz⟩:=I.list hq
 have lp:p < s.heap.objs.size:=by
  obtain ⟨o,e,_⟩:=pl.isList
  exact aq e
 refine call_any_walk (jr pl.isList ⟨s.heap.objs.size,_,_,_,_,_,fun i=>bs.getD i false,rfl,vj (A:=X.A.in1) (I.ok.hd hc) s.heap.objs.size p (cg lp) its.toArray,⟨⟨_,br _ rfl,rfl,rfl⟩,pl.isList.at fun o e=>ah _ e⟩,?_,?_⟩)
 ·intro i v s1 Q1 E1 hv hq1
  have hi:its[i]?=some v:=by simpa using hv
  have hl:=rv.length
  rw [aa] at hl
  have hb:i < bs.length:=by
   have:=(az.mp hi).1
   lia
  obtain ⟨u,hu,ru⟩:=rv.get (i:=i) (x:=V.bl bs[i]) (by rw [dh,de hb];rfl)
  rw [hi] at hu
  cases hu
  cases ru
  have e:bs.getD i false=bs[i]:=by simp [List.getD,hb]
  dsimp only at hq1
  rw [e] at hq1
  exact dy hq1
 ·intro h' tk hk
  have kept:∀ b o,s.heap.get? b=some o->h'.get? b=some o:=fun b o e=>hk b o (by
   intro z
   have z:b=s.heap.objs.size:=by simpa using z
   exact absurd (aq e) (by rw [z];exact ef _)) (ah _ e)
  refine ⟨.bl (bs.any id),H,I.kept kept,?_,q⟩
  show Value.bool _=Value.bool _
  have hl:=rv.length
  rw [aa] at hl
  have e:((List.range its.toArray.size).any fun i=>bs.getD i false)=bs.any id:=by
   rw [bj, <- hl]
   clear q hq rv pl hk hz hl
   rw [ja,oa,oa]
   constructor
   ·rintro ⟨i,hi,h⟩
    have hi:=me.mp hi
    simp [List.getD,hi] at h
    exact ⟨_,yf hi,h⟩
   ·rintro ⟨b,hb,h⟩
    obtain ⟨i,hi,e⟩:=wb hb
    refine ⟨i,me.mpr hi,?_⟩
    simp [List.getD,hi]
    rw [e];exact h
  rw [e]
theorem bX3 {es:List Expr}{k:Nat}{t:TGs}{n:Nat}{pos:Pos}(K:PySem.W.Frag) (hc:X.calm=true) (h:PGs X es t) (hK:autoParam (X.K=K) Rq0._auto_1)
  (hn:autoParam ((assignEach es X.env).length=n) Rq0._auto_1) (hst:autoParam ((assignEach es X.env).findIdx? (·.1)=none) Rq0._auto_1):PG X (.Tuple es k pos) (bK4 K n t):=by subst hK;exact eG hc h hn hst
end
def bN3 (i j l:Nat) (ta:TA):TS:=fun D σ H=>ta σ H fun vs H1=>∃ v w x,vs=[v,w,x]/\D.nx (((σ.set i (some v)).set j (some w)).set l (some x)) H1
theorem aR5 {X:Cx}{pos:Pos}{i j l:Nat}{x y z:Str}{a b c:Expr}{ta:TA}{px py pz pt:Pos}{kt k2 pt2} (hc:X.calm=true) (hN:X.N.Nodup) (hi:X.N[i]?=some x) (hj:X.N[j]?=some y) (hl:X.N[l]?=some z) (hij:i≠j) (hil:i≠l) (hjl:j≠l)
  (hx:X.env.scope.names.lookup x=some .local) (hy:X.env.scope.names.lookup y=some .local) (hz:X.env.scope.names.lookup z=some .local) (ha:PA X [a,b,c] ta)
  (hw:swappedStores [.Tuple [.Name x px,.Name y py,.Name z pz] kt pt] (.Tuple [a,b,c] k2 pt2) X.env=pure (some [x,y,z]))
  (hs:autoParam (swapsWithSole [.Tuple [.Name x px,.Name y py,.Name z pz] kt pt] (.Tuple [a,b,c] k2 pt2) pos.line X.env=pure false) Rq0._auto_1) :
  PS X (.Assign [.Tuple [.Name x px,.Name y py,.Name z pz] kt pt] (.Tuple [a,b,c] k2 pt2) pos) (bN3 i j l ta):=by
 intro pins s σ H D I h
 rw [exec_Assign_arm]
 refine ac (nj ?_)
 rw [hs]
 refine ac (ao ?_)
 rw [ar (by decide)]
 refine ac (Tuple_ (dJ (ha _ pins s σ H _ I h) ?_));rintro us s1 ⟨vs,H1,I1,r1,q1⟩
 obtain ⟨v,w,x',e1,q1⟩:=q1
 subst e1
 obtain ⟨u1,u2,u3,rfl,rv,rw',rx⟩:∃ u1 u2 u3,us=[u1,u2,u3]/\bX v u1/\bX w u2/\bX x' u3:=by
  cases r1 with
  |cons p q =>
   cases q with
   |cons p' q' =>
    cases q' with
    |cons p'' q'' =>
     cases q''
     exact ⟨_,_,_,rfl,p,p',p''⟩
 refine fj ?_ (by show 3<=sizeLine;decide)
 have I2:bC X pins σ H1 { s1 with heap:=s1.heap.push { cls:= .type "tuple",data:= .seq [u1,u2,u3].toArray } }:=I1.kept (t':=s1.toks) fun b o e=>ah _ e
 rw [hw]
 refine ac (ao ?_)
 show wpAny (model X.prog X.w) X.A (do rule "assign.swapped-stores";let items <- unpackItems (.ref s1.heap.objs.size) 3 none;assignInOrder [fun v=>bindName X.env z v,fun v=>bindName X.env y v,fun v=>bindName X.env x v] items.reverse;pure Flow.next) _ _ _
 refine ac (yq (ac (unpackItems_tuple (items:= #[u1,u2,u3]) (I.ok.hd hc) (IsTup.new s1.heap _) fun h' hx'=>?_)))
 have I3:=I2.kept (h':=h') (t':=s1.toks) fun b o e=>hx' b o (cg (aq e)) e
 show wpAny _ _ (assignInOrder [fun v=>bindName X.env z v,fun v=>bindName X.env y v,fun v=>bindName X.env x v] [u3,u2,u1] >>= fun _=>pure Flow.next) _ _ _
 refine ac (lu (qf (gJ I3 hN hl (.inl hz) rx (fun s2 I4=>?_) (.inr hz))))
 refine lu (qf (gJ I4 hN hj (.inl hy) rw' (fun s3 I5=>?_) (.inr hy)))
 refine lu (qf (gJ I5 hN hi (.inl hx) rv (fun s4 I6=>xg (ao ?_)) (.inr hx)))
 have e:(((σ.set l (some x')).set j (some w)).set i (some v))=(((σ.set i (some v)).set j (some w)).set l (some x')):=by
  rw [vv _ _ (Ne.symm hjl),vv (l:=σ.set j (some w)) _ _ (Ne.symm hil),vv _ _ (Ne.symm hij)]
 rw [e] at I6
 exact ⟨_,H1,I6,q1⟩
section
variable {X:Cx}{pins:List (Addr×Obj)}{σ: St}{H:Hp}{s:Shared}{h':Heap}
theorem bC.turnedNew {T:Addr}{o:HO}{rs:List Addr}{t':Nat}(I:bC X pins σ H s) (hf:∀ b∈rs,mH X pins H b) (k:∀ b u,b∉rs->s.heap.get? b=some u->h'.get? b=some u)
  (hp:s.heap.objs.size<=T) (new:cK X.prog X.w (aJ H T o) h' T o):bC X pins σ (aJ H T o) { s with heap:=h',toks:=t' }:=by
 have fT:H T=none:=I.hok.fresh hp
 have nT:∀ b u,s.heap.get? b=some u->b≠T:=fun b u e z=>absurd (aq e) (by rw [z];exact rj.mpr hp)
 have nrs:∀ b u,H b=some u->b∉rs:=fun b u e z=>by rw [(hf b z).1] at e;cases e
 refine I.step (g':=s.gens) (d':=s.drawn) (ch:=rs) (fun b hb=>⟨(hf b hb).2.2.2.1,(hf b hb).2.1,(hf b hb).2.2.2.2.1,(hf b hb).2.2.2.2.2⟩) (fun b u _ _ hc e _=>k b u hc e) (fun b u _ _ hc e _=>⟨u.slots,k b u hc e⟩)
  (fun b u _ e n=>by rw [aH (nT b u e)];exact n) (fun b u hc e=>⟨u,k b u hc e⟩) (fun b xs e=>by rw [aH (aK e fT)];exact e) (fun b u v e=>by rw [aH (aK e fT)];exact e)
  (fun b ps e=>⟨#[],by rw [aH (aK e fT),e];simp⟩) (fun m hm=>?_) (fun b u e=>?_) I.bare
 ·obtain ⟨u,es,ep,hu,r⟩:=hm
  exact ⟨u,es,ep,k _ u (fun z=>(hf _ z).2.1 rfl) hu,r⟩
 ·by_cases hb:b=T
  ·subst hb
   rw [aC] at e
   cases e
   exact new
  ·rw [aH hb] at e
   refine (I.hok b u e).stay (fun c v hc q=>k c v ?_ q) (fun c q=>by rw [aH (aK q fT)];exact q) fun c xs q=>by rw [aH (aK q fT)];exact q
   rcases hc with z | z
   ·rw [z];exact nrs b u e
   ·exact nrs c _ z
theorem bC.turnedL {rs:List Addr}{t':Nat}(I:bC X pins σ H s) (hf:∀ b∈rs,mH X pins H b) (k:∀ b u,b∉rs->s.heap.get? b=some u->h'.get? b=some u):bC X pins σ H { s with heap:=h',toks:=t' }:=by
 have nrs:∀ b u,H b=some u->b∉rs:=fun b u e z=>by rw [(hf b z).1] at e;cases e
 refine I.step (g':=s.gens) (d':=s.drawn) (ch:=rs) (fun b hb=>⟨(hf b hb).2.2.2.1,(hf b hb).2.1,(hf b hb).2.2.2.2.1,(hf b hb).2.2.2.2.2⟩) (fun b u _ _ hc e _=>k b u hc e) (fun b u _ _ hc e _=>⟨u.slots,k b u hc e⟩)
  (fun b u _ _ n=>n) (fun b u hc e=>⟨u,k b u hc e⟩) (fun b xs e=>e) (fun b u v e=>e) (fun b ps e=>⟨#[],by rw [e];simp⟩) (fun m hm=>?_) (fun b u e=>?_) I.bare
 ·obtain ⟨u,es,ep,hu,r⟩:=hm
  exact ⟨u,es,ep,k _ u (fun z=>(hf _ z).2.1 rfl) hu,r⟩
 ·refine (I.hok b u e).stay (fun c v hc q=>k c v ?_ q) (fun c q=>q) fun c xs q=>q
  rcases hc with z | z
  ·rw [z];exact nrs b u e
  ·exact nrs c _ z
end
section
variable {prog:Program}{w:World}{A:Around}{E:Value->Shared->Prop}{s:Shared}
theorem bI3 {J t:Addr}{i:Nat}{its:Array Value}{v:Value}{Q:Value->Shared->Prop}(a1:s.heap.IsTupleIter J t i) (a2:s.heap.IsTuple t its) (a3:its[i]?=some v)
  (k:∀ g,g.IsTupleIter J t (i+1)->Heap.SameBut J s.heap g->Q v { s with heap:=g }):wpAny (model prog w) A (Builtin.SmallTypes.nextOf (.ref J)) Q E s:=by
 obtain ⟨oJ,e1,e2,e3⟩:=id a1
 obtain ⟨oT,e4,_,m,e5⟩:=a2
 unfold Builtin.SmallTypes.nextOf
 refine ac (ip (name:=Str.ofString "__next__") a1.typeIs jc (kh jc a1.typeIs qr ?_ (qg _)))
 show wpAny _ _ (field (.ref J) 0 >>= _) _ _ s
 refine ac (im e1 e3 (x:= .ref t) rfl ?_)
 refine (show wpAny _ _ (if (Value.ref t == Value.none)=true then _ else _) _ _ s from ?_)
 rw [ar (show ¬ ((Value.ref t == Value.none)=true) by exact bi)]
 show wpAny _ _ (field (.ref J) 1 >>= _) _ _ s
 refine ac (im e1 e3 (x:= .int i 0) rfl ?_)
 refine (show wpAny _ _ (seqItems? (.ref t) >>= _) _ _ s from ac (jy e4 e5 ?_))
 simp only [Int.toNat_natCast,a3]
 refine ac (qh e1 e3 (by simp) (ao ⟨v,rfl,ao (k _ ?_ (wc ..))⟩))
 exact ⟨_,eo _ e1 (jz (ij e3 _)),(xo ..).trans e2,by rw [ij e3];simp [rawInt]⟩
theorem qP {J t:Addr}{i:Nat}{its:Array Value}{Q:Value->Shared->Prop}(hh:A.handled=none) (a1:s.heap.IsTupleIter J t i) (a2:s.heap.IsTuple t its) (a3:its[i]?=none)
  (k:∀ g e,Heap.ExtBut J s.heap g->(∃ o,g.get? e=some o/\o.cls= .type "StopIteration")->E (.ref e) { s with heap:=g }):wpAny (model prog w) A (Builtin.SmallTypes.nextOf (.ref J)) Q E s:=by
 obtain ⟨oJ,e1,e2,e3⟩:=id a1
 obtain ⟨oT,e4,_,m,e5⟩:=a2
 unfold Builtin.SmallTypes.nextOf
 refine ac (ip (name:=Str.ofString "__next__") a1.typeIs jc (kh jc a1.typeIs qr ?_ (qg _)))
 show wpAny _ _ (field (.ref J) 0 >>= _) _ _ s
 refine ac (im e1 e3 (x:= .ref t) rfl ?_)
 refine (show wpAny _ _ (if (Value.ref t == Value.none)=true then _ else _) _ _ s from ?_)
 rw [ar (show ¬ ((Value.ref t == Value.none)=true) by exact bi)]
 show wpAny _ _ (field (.ref J) 1 >>= _) _ _ s
 refine ac (im e1 e3 (x:= .int i 0) rfl ?_)
 refine (show wpAny _ _ (seqItems? (.ref t) >>= _) _ _ s from ac (jy e4 e5 ?_))
 simp only [Int.toNat_natCast,a3]
 refine ac (yq (ac (qh e1 e3 (by simp) ?_)))
 refine (show wpAny _ _ (newExc (.type "StopIteration") [] >>= _) _ _ _ from ac ?_)
 simp only [newExc,newTuple]
 refine ac (fj ?_ (by size_fits))
 refine ac (m:=firstArgMember _ _) (wpAny_of_eq (a:=Value.none) (by first | exact rfl | (simp only [firstArgMember];rfl)) ?_)
 refine fj ?_ (by size_fits)
 simp only [raiseNew]
 refine ac (wpAny_handled ?_)
 first | rw [hh] | rw [show A.in1.handled=none from hh]
 refine ac (ao (wpAny_throw ?_))
 exact k _ _ (((wc ..).extBut.push _).push _) ⟨_,br _ rfl,rfl⟩
end
section
variable {g:TG}{tc:TT}{te:TE}
end
def Its (x:Str):It:=⟨fun i _=>i < x.length,fun i H v H'=>H'=H/\∃ c,x.cps[i]?=some c/\v= .str ⟨#[c]⟩,fun i _=>x.length<=i⟩
theorem aR1 (x:Str):x.length=x.cps.size:=rfl
theorem aN2 {P:Program}{w:World}{K:PySem.W.Frag}{tg:Expr}{ty:String}(hty:ty="str_ascii_iterator"\/ty="str_iterator") (it:Addr) (x:Str) (t:Tok):uP P w K tg (Its x) [it] it (fun i h=>i<=x.length/\h.IsStrIter it ty x t i):=by
 have W:∀ A:Around,A.handled=none->Walks P w A it [it] [it] x.cps.size (SignAt x) (fun i h=>h.IsStrIter it ty x t i):=by
  intro A hA
  rcases hty with rfl | rfl
  ·exact Walks.strAscii hA it x t
  ·exact Walks.strWide hA it x t
 have hn:["enumerate","zip","dict_itemiterator","dict_reverseitemiterator","odict_iterator","itertools.zip_longest","itertools.pairwise"].contains ty=false:=by
  rcases hty with rfl | rfl <;> decide
 exact {
  mem:=by simp
  obj:=fun i h st b hb=>by
   have e:b=it:=by simpa using hb
   subst e
   obtain ⟨o,e,c,d⟩:=st.2
   exact ⟨o,e,fun v z=>by rw [d] at z;cases z⟩
  keep:=fun i h h' st k=>⟨st.1,by
   obtain ⟨o,e,r⟩:=st.2
   exact ⟨o,k it (by simp) o e,r⟩⟩
  item:=by
   intro X hP hw hK hc i pins s σ H E I hf st hg
   subst hP hw hK
   obtain ⟨f0,f1,f2,f3,f4,f5⟩:=hf it (by simp)
   have hg:i < x.length:=hg
   refine (W X.A (I.ok.hd hc)).item i s _ _ hg st.2 fun v h' tk hv st' kk=>?_
   obtain ⟨c,u,hcx,rfl⟩:=hv
   have I1:bC X pins σ H { s with heap:=h',toks:=tk }:=I.turned (fun b o hb e=>kk b o (by simpa using hb) e) f0 f1 f3 f4 f5
   obtain ⟨o,e,c1,d⟩:=id st'
   exact ⟨_,rfl,go_of (s:={ s with heap:=h',toks:=tk }) e c1 d hn ⟨.str ⟨#[c]⟩,H,I1,⟨u,rfl⟩,⟨rfl,c,hcx,rfl⟩,⟨hg,st'⟩,fun b hb=>(hf b hb).1⟩⟩
  done:=by
   intro X hP hw hK hc i pins s σ H E I hf st hg
   subst hP hw hK
   obtain ⟨f0,f1,f2,f3,f4,f5⟩:=hf it (by simp)
   have hg:x.length<=i:=hg
   have e:i=x.cps.size:=by have:=st.1;rw [aR1] at this hg;lia
   subst e
   refine (W X.A (I.ok.hd hc)).done s _ _ st.2 fun h' tk kk=>⟨rfl,I.turned (fun b o hb e=>kk b o (by simpa using hb) e) f0 f1 f3 f4 f5⟩
  self:=fun A i s Q E st h=>by
   rcases hty with rfl | rfl
   ·exact wpAny_pyIter_striter_ascii st.2 h
   ·exact wpAny_pyIter_striter_wide st.2 h }
section
variable {X:Cx}{tg:Expr}
def bV2 (tl:TE):TI:=fun σ H R=>tl σ H fun x H1=>∃ z,x= .str z/\R (Its z) H1
theorem bF1 {l:Expr}{tl:TE}(hl:PE X l tl):PI X tg l (bV2 tl):=by
 intro pins s σ H R I h
 refine dJ (hl pins s σ H _ I h) ?_;rintro v s1 ⟨x,H1,I1,r1,z,e,q⟩
 subst e
 obtain ⟨t,rfl⟩:=r1
 have fin:∀ (o:Obj) (ty:String),(ty="str_ascii_iterator"\/ty="str_iterator")->(s1.heap.push o).IsStrIter s1.heap.objs.size ty z t 0->PIE X pins σ tg R (.ref s1.heap.objs.size) { s1 with heap:=s1.heap.push o }:=fun o ty hty hi =>
  ⟨s1.heap.objs.size,[s1.heap.objs.size],_,_,H1,rfl,I1.kept (t':=s1.toks) fun b o e=>ah _ e,aN2 hty _ z t,⟨av _,hi⟩,fun b hb=>by
   have e:b=s1.heap.objs.size:=by simpa using hb
   subst e
   exact I1.fpOk (ai _) (I1.hok.fresh (ai _)),q⟩
 cases ha:z.cps.all (· < 128)
 ·exact wpAny_pyIter_wide ha (fin _ _ (.inr rfl) ⟨_,br _ rfl,rfl,rfl⟩)
 ·exact wpAny_pyIter_ascii ha (fin _ _ (.inl rfl) ⟨_,br _ rfl,rfl,rfl⟩)
theorem aK6 {x:Str}{g:TG}{tc:TT}{te:TE}{Kf:List V->Hp->Prop}{σ0:St}{H1:Hp}(Pv:Nat->List V->St->Hp->Prop) (hz:x.length < sizeLine) (h0:Pv 0 [] σ0 H1) (hb:∀ i ys σ H,Pv i ys σ H->ys.length<=i)
  (hs:∀ i c ys σ H,x.cps[i]?=some c->Pv i ys σ H->g (.str ⟨#[c]⟩) σ H fun σ2 H2=>tc σ2 H2 fun b H3=>if b=true then te σ2 H3 fun y H4=>Pv (i+1) (ys++[y]) σ2 H4 else Pv (i+1) ys σ2 H3) (hd:∀ ys σ H,Pv x.length ys σ H->Kf ys H):qI (Its x) g tc te Kf σ0 H1:=by
 refine ⟨fun i m ys σ H=>m=x.length - i/\i<=x.length/\Pv i ys σ H,⟨x.length,by simp,av _,h0⟩,?_⟩
 rintro i m ys σ H ⟨rfl,hi,p⟩
 refine ⟨dz (hb _ _ _ _ p) (dz hi hz),?_⟩
 by_cases hlt:i < x.length
 ·refine .inr ⟨hlt,Pv (i+1),fun ys' σ' H' p'=>⟨x.length - (i+1),fi hlt (ej i),rfl,hlt,p'⟩,fun v H' y=>?_⟩
  obtain ⟨e,c,hc,ev⟩:=y
  subst e ev
  exact hs i c ys σ _ hc p
 ·have e:i=x.length:=by lia
  subst e
  exact .inl ⟨ai _,hd ys σ H p⟩
def rSlS:V->Option Int->Option Int->Hp->VK->Prop:=fun x lo hi H Q=>∃ z,x= .str z/\z.length<=sizeLine/\Q (.str (Txt.slice z lo hi)) H
theorem xS:SlR X rSlS:=by
 intro pins s σ H x v vl vu lo hi sl Q I rx hs pl pu h
 obtain ⟨z,rfl,hz,q⟩:=h
 obtain ⟨t,rfl⟩:=rx
 refine ⟨"str",_,F.slot_str_getitem.lookup,yo _ _ _,?_⟩
 have fin:∀ {lo hi:Option Int},Q (.str (Txt.slice z lo hi)) H->∀ t' k,EP X pins σ Q (.str (Txt.slice z lo hi) t') { s with toks:=k }:=fun q t' k=>⟨.str _,H,I.tok k,⟨_,rfl⟩,q⟩
 cases pl with
 |none =>
  cases pu with
  |none=>exact jk (l:=none) (u:=none) (st:=none) hs rfl (oz ⟨cj (ma z _ _) hz,fin q⟩)
  |int j u=>exact jk (l:=none) (u:=some (j,u)) (st:=none) hs rfl (oz ⟨cj (ma z _ _) hz,fin q⟩)
 |int i u' =>
  cases pu with
  |none=>exact jk (l:=some (i,u')) (u:=none) (st:=none) hs rfl (oz ⟨cj (ma z _ _) hz,fin q⟩)
  |int j u=>exact jk (l:=some (i,u')) (u:=some (j,u)) (st:=none) hs rfl (oz ⟨cj (ma z _ _) hz,fin q⟩)
theorem qX:∀ {ys:List Str}{us:List Value},bN (ys.map V.str) us->StrsAre us ys
 |[],_,r=>by
  cases r
  exact .nil
 |y :: ys,_,r=>by
  cases r with
  |cons r1 r2 =>
   obtain ⟨t,rfl⟩:=r1
   exact .cons y t (qX r2)
def bK3 (K:PySem.W.Frag):V->List V->Hp->VK->Prop:=fun x vs H Q=>∃ (sep:Str) (p:Addr) (ys:List Str),x= .str sep/\vs=[.ref p]/\bI K H p (ys.map V.str)/\(ys.map (·.length)).sum+ys.length * sep.length<=16777216/\Q (.str (Txt.join sep ys)) H
theorem aQ7:MtR X "str.join" (bK3 X.K):=by
 intro pins s σ H x xs v us Q I rx rs h
 obtain ⟨sep,p,ys,rfl,rfl,hq,hz,q⟩:=h
 obtain ⟨t,rfl⟩:=rx
 obtain ⟨u,rfl,ru⟩:=rs.one
 cases ru
 obtain ⟨its,rv,pl,_⟩:=I.list hq
 exact join_list pl.isList (by simpa using qX rv) hz fun t' k=>⟨.str _,H,I.tok k,⟨_,rfl⟩,q⟩
end
theorem zC (ns:List Int):∀ j,j<=ns.length->preSum (fun i=>ns.getD i 0) j=(ns.take j).sum
 |0,_=>by simp [preSum]
 |j+1,h=>by
  have ih:=zC ns j (by (exact oqC))
  have e:ns[j]?=some ns[j]:=by simp [show j < ns.length by lia]
  have q:ns.take (j+1)=ns.take j++[ns[j]]:=by rw [qj,e];rfl
  rw [q,List.sum_append, <- ih]
  simp [preSum,List.getD,e]
section
variable {X:Cx}
theorem aJ3 (hc:autoParam (X.calm=true) Rq0._auto_1):eM X (.builtin "sum") (fun xs H Q=>∃ (p:Addr) (ns:List Int),xs=[.ref p]/\bI X.K H p (ns.map V.int)/\Q (.int ns.sum) H):=by
 intro pins s σ H xs us Q I r h
 obtain ⟨p,ns,rfl,hq,q⟩:=h
 obtain ⟨u,rfl,ru⟩:=iN r
 cases ru
 obtain ⟨its,rv,pl,hz⟩:=I.list hq
 have lp:p < s.heap.objs.size:=by
  obtain ⟨o,e,_⟩:=pl.isList
  exact aq e
 have hl:=rv.length
 rw [aa] at hl
 have val:∀ i v,its.toArray[i]?=some v->∃ t,v=Value.int (ns.getD i 0) t:=fun i v hv=>by
  have hi:its[i]?=some v:=by simpa using hv
  have hb:i < ns.length:=by
   have:=(az.mp hi).1
   lia
  obtain ⟨u,hu,ru⟩:=rv.get (i:=i) (x:=V.int ns[i]) (by rw [dh,de hb];rfl)
  rw [hi] at hu
  cases hu
  obtain ⟨t,e⟩:=ru
  exact ⟨t,by rw [e];simp [List.getD,hb]⟩
 refine call_sum_walkG (jr pl.isList ⟨s.heap.objs.size,_,_,_,_,_,fun i=>ns.getD i 0,rfl,vj (A:=X.A.in1) (I.ok.hd hc) s.heap.objs.size p (cg lp) its.toArray,⟨⟨_,br _ rfl,rfl,rfl⟩,pl.isList.at fun o e=>ah _ e⟩,?_,val,?_⟩)
 ·intro b hb
  rw [jg]
  rcases cq.mp hb with z | z
  ·rw [z];exact ej _
  ·have z:b=p:=by simpa using z
   rw [z];exact ju lp
 ·intro h' tk t' hk
  have kept:∀ b o,s.heap.get? b=some o->h'.get? b=some o:=fun b o e=>hk b o (by
   intro z
   have z:b=s.heap.objs.size:=by simpa using z
   exact absurd (aq e) (by rw [z];exact ef _)) (ah _ e)
  refine ⟨.int ns.sum,H,I.kept kept,⟨t',?_⟩,q⟩
  rw [bj, <- hl,zC ns _ (ai _),ci]
end
theorem bC.freeze {X:Cx}{pins:List (Addr×Obj)}{σ: St}{H:Hp}{s:Shared}{d:Addr}{o:Obj}{kvs:List (Key×V)}(I:bC X pins σ H s) (h:H d=some (.dK kvs)) (ho:s.heap.get? d=some o) :
  bC X pins σ (aJ H d (.frz o (.dK kvs))) s:=by
 have nd:∀ b u,H b=some u->(∀ z,u≠ .dK z)->b≠d:=fun b u e hu z=>by
  rw [z,h] at e
  exact hu _ (dk e).symm
 refine I.step (g':=s.gens) (d':=s.drawn) (t':=s.toks) (h':=s.heap) (ch:=[]) (fun _ z=>nomatch z) (fun b u _ _ _ e _=>e) (fun b u _ _ _ e _=>⟨u.slots,e⟩) (fun b u _ e n=>by rw [aH (fun z=>by rw [z,h] at n;cases n)];exact n)
  (fun b u _ e=>⟨u,e⟩) (fun b xs e=>by rw [aH (nd b _ e (by intro z c;cases c))];exact e) (fun b u v e=>by rw [aH (nd b _ e (by intro z c;cases c))];exact e)
  (fun b ps e=>⟨#[],by rw [aH (nd b _ e (by intro z c;cases c)),e];simp⟩) (fun m hm=>hm) (fun b u e=>?_) I.bare
 by_cases hb:b=d
 ·subst hb
  rw [aC] at e
  cases e
  exact ⟨ho,I.hok b _ h⟩
 ·rw [aH hb] at e
  exact (I.hok b u e).stay (fun c v _ q=>q) (fun c q=>by rw [aH (nd c _ q (by intro z w;cases w))];exact q) fun c xs q=>by rw [aH (nd c _ q (by intro z w;cases w))];exact q
theorem aG9 {κ: Type}:∀ {kvs:List (κ×V)}{vs:List (κ×Value)}{i:Nat}{k:κ}{v:V},KV kvs vs->kvs[i]?=some (k,v)->∃ u,vs[i]?=some (k,u)/\bX v u
 |_,_,_,_,_,.nil,e=>by simp at e
 |_,_,0,_,_,.cons r _,e=>by
  simp at e
  subst e
  obtain ⟨r1,r2⟩:=r
  exact ⟨_,by simp;exact Prod.ext r1.symm rfl,r2⟩
 |_,_,i+1,_,_,.cons _ r,e=>by
  obtain ⟨u,e1,e2⟩:=aG9 (i:=i) r (by simpa using e)
  exact ⟨u,by simpa using e1,e2⟩
theorem aS5 {k:Key}{u:Value}(h:lZ k u=true):bX (kV k) u:=by
 rcases dA h with ⟨i,t,rfl,rfl⟩ | ⟨x,t,rfl,rfl⟩
 ·exact ⟨t,rfl⟩
 ·exact ⟨t,rfl⟩
def Itd (d:Addr) (o:Obj) (kvs:List (Key×V)):It :=
 ⟨fun i H=>i < kvs.length/\H d=some (.frz o (.dK kvs)),fun i H x H'=>H'=H/\∃ k v,kvs[i]?=some (k,v)/\x=kV k,fun i H=>kvs.length<=i/\H d=some (.frz o (.dK kvs))⟩
theorem aK9 {X:Cx}{pins:List (Addr×Obj)}{σ: St}{H:Hp}{s:Shared}{d:Addr}{o:Obj}{kvs:List (Key×V)}{es:Array DictEntry}{ep:Nat}(I:bC X pins σ H s) (ho:o.data= .dict es ep) (h:H d=some (.frz o (.dK kvs))) :
  ∃ vs,KV kvs vs/\s.heap.DictAt (cG X.prog X.w) d vs ep/\(d == sysModules)=false:=by
 obtain ⟨e,z,ns,vs,rel,o',es',ep',h1,h2,h3,h4,h5,h6⟩:=(show cK X.prog X.w H s.heap d (.frz o (.dK kvs)) from I.hok d _ h)
 rw [e] at h1
 cases h1
 rw [ho] at h3
 cases h3
 exact ⟨vs,rel,⟨o,es,e,h2,ho,h4,h5,h6⟩,ns⟩
theorem aD3 {P:Program}{w:World}{K:PySem.W.Frag}{tg:Expr}(d it:Addr) (o:Obj) (kvs:List (Key×V)) {es:Array DictEntry}{ep:Nat}(ho:o.data= .dict es ep) :
  uP P w K tg (Itd d o kvs) [it] it (fun i h=>i<=kvs.length/\h.IsKeyIter it d i kvs.length ep) where
 mem:=by simp
 obj:=fun i h st b hb=>by
  have e:b=it:=by simpa using hb
  subst e
  obtain ⟨o,e,c,q⟩:=st.2
  exact ⟨o,e,fun v z=>by rw [q] at z;cases z⟩
 keep:=fun i h h' st k=>⟨st.1,st.2.at fun o e=>k it (by simp) o e⟩
 item:=by
  intro X hP hw hK hc i pins s σ H E I hf st hg
  subst hP hw hK
  obtain ⟨hi,hd⟩:=hg
  obtain ⟨f0,f1,f2,f3,f4,f5⟩:=hf it (by simp)
  obtain ⟨vs,rel,da,ns⟩:=aK9 I ho hd
  have hl:kvs.length=vs.length:=jl rel
  obtain ⟨u,hu,_⟩:=aG9 (i:=i) (k:=kvs[i].1) (v:=kvs[i].2) rel (by simp [hi])
  have st2:=st.2
  rw [hl] at st2
  refine wpAny_pyNext_dict_item st2 da hu fun key h' hk st' sb=>?_
  have I1:bC X pins σ H { s with heap:=h' }:=I.turned (t':=s.toks) (fun b o hb e=>(sb.2 b hb).trans e) f0 f1 f3 f4 f5
  obtain ⟨o2,e2,c2,d2⟩:=id st'
  rw [<- hl] at st'
  exact ⟨key,rfl,go_of (s:={ s with heap:=h' }) e2 c2 d2 (by decide) ⟨kV kvs[i].1,H,I1,aS5 hk,⟨rfl,kvs[i].1,kvs[i].2,by simp [hi],rfl⟩,⟨hi,st'⟩,fun b hb=>(hf b hb).1⟩⟩
 done:=by
  intro X hP hw hK hc i pins s σ H E I hf st hg
  subst hP hw hK
  obtain ⟨hi,hd⟩:=hg
  obtain ⟨f0,f1,f2,f3,f4,f5⟩:=hf it (by simp)
  obtain ⟨vs,rel,da,ns⟩:=aK9 I ho hd
  have hl:kvs.length=vs.length:=jl rel
  have st2:=st.2
  rw [hl] at st2
  exact wpAny_pyNext_dict_end (I.ok.hd hc) st2 da (by simp;(exact oqN)) fun h' eb=>⟨rfl,I.turned (t':=s.toks) (fun b o hb e=>eb b o hb e) f0 f1 f3 f4 f5⟩
 self:=fun _ _ _ _ _ st h=>wpAny_pyIter_keyiter st.2 h
def bR6 (tl:TE):TI:=fun σ H R=>tl σ H fun x H1=>∃ d kvs,x= .ref d/\H1 d=some (.dK kvs)/\∀ o,R (Itd d o kvs) (aJ H1 d (.frz o (.dK kvs)))
theorem aQ4 {X:Cx}{tg l:Expr}{tl:TE}(hl:PE X l tl):PI X tg l (bR6 tl):=by
 intro pins s σ H R I h
 refine dJ (hl pins s σ H _ I h) ?_;rintro v s1 ⟨x,H1,I1,r1,q1⟩
 obtain ⟨d,kvs,e,hd,q⟩:=q1
 subst e
 cases r1
 obtain ⟨z,ns,vs,rel,o,es,ep,h1,h2,h3,h4,h5,h6⟩:=yY I1.hok hd
 have hl:kvs.length=vs.length:=jl rel
 have I2:=I1.freeze hd h1
 refine wpAny_pyIter_dict (knd:=cG X.prog X.w) ns ⟨o,es,h1,h2,h3,h4,h5,h6⟩ ?_
 have f:(aJ H1 d (.frz o (.dK kvs))) s1.heap.objs.size=none:=I2.hok.fresh (ai _)
 refine ⟨s1.heap.objs.size,[s1.heap.objs.size],_,_,_,rfl,I2.kept (t':=s1.toks) fun b o e=>ah _ e,aD3 d _ o kvs h3,⟨av _,⟨_,br _ rfl,rfl,by rw [hl];rfl⟩⟩,fun b hb=>?_,q o⟩
 have e:b=s1.heap.objs.size:=by simpa using hb
 subst e
 exact I2.fpOk (ai _) f
section
variable {X:Cx}
variable {g:TG}{tc:TT}{te:TE}
end
open AutoSeq1 (wpAny_loadPart')
section
variable {prog:Program}{w:World}{A:Around}{E:Value->Shared->Prop}{s:Shared}
theorem aB9 (hh:A.handled=none) (it l:Addr) (hne:l≠it) (items:Array Value) :
  Draws prog w A it [it,l] items.size (fun i v=>items[i]?=some v) (fun i h=>h.IsTupleIter it l i/\h.IsTuple l items) where
 live:=fun _ _ st=>let ⟨o,ho,_⟩:=st.1;⟨o,ho⟩
 frame:=fun _ _ _ st hk=>⟨let ⟨o,ho,r⟩:=st.1;⟨o,hk it (by simp) o ho,r⟩,let ⟨o,ho,r⟩:=st.2;⟨o,hk l (by simp) o ho,r⟩⟩
 item:=fun i s Q E hi st hQ=>by
  refine bI3 st.1 st.2 (v:=items[i]) (by simp [hi]) fun h' hit' hs'=>?_
  exact hQ _ h' s.toks (by simp [hi]) ⟨hit',st.2.extBut hs'.extBut hne⟩ hs'
 done:=fun s Q E st hE=>qP hh st.1 st.2 (by simp) hE
end
theorem pZ (l:Addr) (items:Array Value) (n:Nat) (dct:Option Addr) (sl:Array (Option Value)) :
  Meets (Builtin.«enumerate.__new__» ⟨[.type "enumerate",.ref l],[]⟩) (fun _ R s=>s.heap.get? l=some { cls:= .type "tuple",dict:=dct,data:= .seq items n,slots:=sl } /\
   R (.ok (.ret (.ref (s.heap.push { cls:= .type "tuple_iterator",data:= .fields #[.ref l,.int 0 0] }).objs.size)))
    { s with heap:=(s.heap.push { cls:= .type "tuple_iterator",data:= .fields #[.ref l,.int 0 0] }).push { cls:= .type "enumerate",data:= .fields #[.none,.bool false,.ref s.heap.objs.size,rawInt 0,.none,.none] } }) :=
 .of_wp fun prog w A R s h=>by
  obtain ⟨hp,g,d,tk,os⟩:=s;obtain ⟨hl,h⟩:=h
  have hsub:=sub_enumerate
  have hL:Heap.IsTuple (Shared.heap ⟨hp,g,d,tk,os⟩) l items:=⟨_,hl,rfl,n,rfl⟩
  wp_walk using dv hl
  refine wpAny_stack_any fun st=>ao ?_
  split
  ·rename_i c _ _ _ _ _
   cases (c == Value.type "enumerate")
   ·wp_walk using dv hl,jm hL
    exact ⟨_,rfl,h⟩
   ·wp_walk using dv hl,jm hL
    exact ⟨_,rfl,h⟩
  ·wp_walk using dv hl,jm hL
   exact ⟨_,rfl,h⟩
section
variable {prog:Program}{w:World}{A:Around}{E:Value->Shared->Prop}{s:Shared}
theorem rM {l:Addr}{items:Array Value}{Q:Value->Shared->Prop}(hL:s.heap.IsTuple l items)
  (h:∀ h',IsEnum h' (s.heap.objs.size+1) s.heap.objs.size 0 .none->h'.IsTupleIter s.heap.objs.size l 0->h'.objs.size=s.heap.objs.size+2 ->
   (∀ b o,s.heap.get? b=some o->h'.get? b=some o)->Q (.ref (s.heap.objs.size+1)) { s with heap:=h' }) :
  wpAny (model prog w) A (call (.type "enumerate") [.ref l]) Q E s:=by
 obtain ⟨⟨c,dct,dt,sl⟩,hl,hc,n,hd⟩:=hL
 replace hc:c= .type "tuple":=hc
 replace hd:dt= .seq items n:=hd
 subst hc hd
 refine callType_new F.called_enumerate (by decide) (F.typeCall_enumerate_1 _) (F.newCall_enumerate_1 _) (fun obj=>F.args_object_init_2 obj _) F.entry_enumerate_new
  (pZ l items n dct sl) ⟨hl,?_⟩
 have hz:(s.heap.push { cls:= .type "tuple_iterator",data:= .fields #[.ref l,.int 0 0] }).objs.size=s.heap.objs.size+1:=jg ..
 show _/\_
 rw [hz]
 have he:IsEnum ((s.heap.push { cls:= .type "tuple_iterator",data:= .fields #[.ref l,.int 0 0] }).push
   { cls:= .type "enumerate",data:= .fields #[.none,.bool false,.ref s.heap.objs.size,rawInt 0,.none,.none] }) (s.heap.objs.size+1) s.heap.objs.size 0 .none:=by
  have:=br (s.heap.push { cls:= .type "tuple_iterator",data:= .fields #[.ref l,.int 0 0] })
   (o:={ cls:= .type "enumerate",data:= .fields #[.none,.bool false,.ref s.heap.objs.size,rawInt 0,.none,.none] }) rfl
  rw [hz] at this;exact this
 refine ⟨⟨_,he,rfl⟩,h _ he ⟨_,ah _ (br _ rfl),rfl,rfl⟩ (by rw [jg,hz]) fun b o x=>ah _ (ah _ x)⟩
end
def Itet (K : PySem.W.Frag) (a : Addr) : It :=
  ⟨fun i H => ∃ xs x, aQ K H a xs /\ xs[i]? = some x,
   fun i H x H' => ∃ t, H t = none /\ x = .ref t /\ ∀ xs, aQ K H a xs -> ∃ u, xs[i]? = some u /\ H' = aJ H t (.tup [.int i, u]),
   fun i H => ∃ xs, aQ K H a xs /\ xs.length <= i⟩
theorem xP {P:Program}{w:World}{K:PySem.W.Frag}{elts:List Expr}{x1:Nat}{pos:Pos}(a n:Addr) (han:a < n) :
  uP P w K (.Tuple elts x1 pos) (Itet K a) [n,n+1] (n+1) (fun i h=>(∃ old,IsEnum h (n+1) n i old)/\h.IsTupleIter n a i) where
 mem:=by simp
 obj:=fun i h Z c hc=>by
  obtain ⟨⟨old,he⟩,⟨o1,e1,c1,d1⟩⟩:=Z
  simp only [List.mem_cons,List.not_mem_nil,or_false] at hc
  rcases hc with rfl | rfl
  ·exact ⟨_,e1,fun v z=>by rw [d1] at z;cases z⟩
  ·exact ⟨_,he,fun v z=>by cases z⟩
 keep:=fun i h h' Z k=>⟨let ⟨old,he⟩:=Z.1;⟨old,k _ (by simp) _ he⟩,let ⟨o,e,r⟩:=Z.2;⟨o,k _ (by simp) o e,r⟩⟩
 item:=by
  intro X hP hw hK hc i pins s σ H E I hf Z hg
  subst hP hw hK
  obtain ⟨xs,x,q1,hx⟩:=hg
  obtain ⟨its,rv,pl,_⟩:=I.tuple q1
  obtain ⟨u,hu,ru⟩:=rv.get hx
  obtain ⟨⟨old,he⟩,hit⟩:=Z
  have d0:n+1≠n:=yg n
  have hil:i < its.toArray.size:=by
   have:=(az.mp hu).1
   simpa using this
  refine wpAny_pyNext_enum_itemD (fp:=[n,a]) (P:=fun i v=>its.toArray[i]?=some v) (aB9 (A:=X.A.in1) (I.ok.hd hc) n a (cg han) its.toArray) he ⟨hit,pl⟩ hil d0 (fun z=>by
   simp only [List.mem_cons,List.not_mem_nil,or_false] at z
   rcases z with z | z
   ·exact d0 z
   ·exact absurd z (jh (ju han))) fun x' g tk px z1 j1 T1 _ k1=>?_
  have exu:x'=u:=by
   have:its[i]?=some x':=by simpa using px
   rw [hu] at this
   exact (dk this).symm
  subst exu
  refine ⟨_,rfl,wpAny_letOwnedTupleGo_enum z1 fun g2 z2 sb=>?_⟩
  have nT:s.heap.objs.size≠n+1:=jh (aq he)
  have lt:∀ c∈[n,n+1],c < s.heap.objs.size:=fun c hc=>by
   simp only [List.mem_cons,List.not_mem_nil,or_false] at hc
   rcases hc with rfl | rfl
   ·obtain ⟨o1,e1,_⟩:=hit
    exact aq e1
   ·exact aq he
  have kk:∀ c o,c∉[n,n+1]->s.heap.get? c=some o->g2.get? c=some o:=fun c o hc e=>by
   simp only [List.mem_cons,List.not_mem_nil,or_false,not_or] at hc
   exact (sb.2 c hc.2).trans (k1 c o hc.2 hc.1 e)
  have TT:g2.get? s.heap.objs.size=some { cls:= .type "tuple",data:= .seq #[.int i tk,x'] }:=(sb.2 _ nT).trans T1
  have I2:=I.turnedNew (T:=s.heap.objs.size) (o:= .tup [.int i,x]) (rs:=[n,n+1]) (t':=tk+1) hf kk (ai _) ⟨by show 2<=sizeLine;decide,[.int i tk,x'],.cons ⟨_,rfl⟩ (.cons ru .nil),⟨_,TT,rfl,_,rfl,rfl⟩⟩
  refine ⟨.ref s.heap.objs.size,_,I2,rfl,⟨_,I.fresh,rfl,fun xs' w1=>⟨x,by rw [I.tuple_inj w1 q1];exact hx,rfl⟩⟩,⟨⟨_,by simpa using z2⟩,?_⟩,fun c hc=>?_⟩
  ·obtain ⟨o,e,r⟩:=j1.1
   exact ⟨o,(sb.2 _ d0.symm).trans e,r⟩
  rw [aH (cg (lt c hc))]
  exact (hf c hc).1
 done:=by
  intro X hP hw hK hc i pins s σ H E I hf Z hg
  subst hP hw hK
  obtain ⟨xs,q1,hx⟩:=hg
  obtain ⟨its,rv,pl,_⟩:=I.tuple q1
  obtain ⟨⟨old,he⟩,hit⟩:=Z
  have hl:=rv.length
  have hT:s.TypeIs (.ref (n+1)) "enumerate":=⟨_,he,rfl⟩
  unfold pyNext
  refine ac (vw (ip (name:=Str.ofString "__next__") hT uy
   (kh uy hT F.entry_enumerate_next ?_ (F.args_enumerate_next_1 _))))
  show wpAny _ _ (field (.ref (n+1)) 2 >>= _) _ _ _
  refine ac (im he rfl (x:= .ref n) rfl ?_)
  refine ac (qP (I.ok.hd hc) hit pl (by simp;(exact oqN)) fun g x he' hx'=>?_)
  obtain ⟨o,ho,hc'⟩:=hx'
  refine ac (ye (T:="StopIteration") (b:=true) ⟨o,ho,hc'⟩ isSubtype_stop ?_)
  refine ao ⟨rfl,I.turnedL (rs:=[n,n+1]) (t':=s.toks) hf fun c o hc e=>?_⟩
  simp only [List.mem_cons,List.not_mem_nil,or_false,not_or] at hc
  exact he' c o hc.1 e
 self:=fun _ _ _ _ _ Z h=>by
  obtain ⟨⟨old,he⟩,_⟩:=Z
  exact xp he h
def bD2 (K:PySem.W.Frag) (ta:TA):TI:=fun σ H R=>ta σ H fun vs H1=>∃ a,vs=[.ref a]/\(∃ xs,aQ K H1 a xs)/\R (Itet K a) H1
theorem wB {X:Cx}{a:Expr}{ta:TA}{p pos:Pos}{elts:List Expr}{x1:Nat}{tpos:Pos}(hg:Gl X "enumerate") (hm:X.mg "enumerate"=none) (ha:PA X [a] ta) (hs:autoParam (starEach [a] X.env=[(false,eval a X.env)]) Rq0._auto_1) :
  PI X (.Tuple elts x1 tpos) (.Call (.Name "enumerate" p) [a] [] pos) (bD2 X.K ta):=by
 intro pins s σ H R I h
 refine gu (kD I hg hm PyProof.Rows.boot_enumerate (ge (dJ (ha pos pins s σ H _ I h) ?_) hs rfl));rintro us s1 ⟨vs,H1,I1,r1,q1⟩
 obtain ⟨a',rfl,⟨xs,q1⟩,q⟩:=q1
 obtain ⟨u,rfl,ru⟩:=iN r1
 cases ru
 obtain ⟨its,_,pl,_⟩:=I1.tuple q1
 have la:a' < s1.heap.objs.size:=by
  obtain ⟨o,e,_⟩:=id pl
  exact aq e
 refine rM pl fun g he hit _ k=>xp he ?_
 have I2:bC X pins σ H1 { s1 with heap:=g }:=I1.kept (t':=s1.toks) k
 refine ⟨s1.heap.objs.size+1,_,_,Itet X.K a',H1,rfl,I2,xP a' s1.heap.objs.size la,⟨⟨_,he⟩,hit⟩,fun c hc=>?_,q⟩
 have hge:s1.heap.objs.size<=c:=by
  simp only [List.mem_cons,List.not_mem_nil,or_false] at hc
  rcases hc with rfl | rfl
  ·exact ai _
  ·exact Nat.le_add_right ..
 exact I1.fpOk hge (I1.hok.fresh hge)
theorem aF0 {K:PySem.W.Frag}{a:Addr}{xs:List V}{g:TG}{tb:TS}{D:fY}{σ: St}{H:Hp}(Pv:Nat->St->Hp->Prop) (h0:Pv 0 σ H) (hl:∀ i σ H,i<=xs.length->Pv i σ H->aQ K H a xs)
  (hs:∀ i x σ H t,xs[i]?=some x->Pv i σ H->H t=none->g (.ref t) σ (aJ H t (.tup [.int i,x])) fun σ2 H2=>tb { D with nx:=Pv (i+1),ct:=Pv (i+1),bk:=D.nx } σ2 H2) (hd:∀ σ H,Pv xs.length σ H->D.nx σ H) :
  ∃ W:Nat->Nat->St->Hp->Prop,(∃ m,W 0 m σ H)/\∀ i m σ H,W i m σ H ->
   ((Itet K a).stop i H/\D.nx σ H)\/((Itet K a).go i H/\∃ N:St->Hp->Prop,(∀ σ' H',N σ' H'->∃ m',m' < m/\W (i+1) m' σ' H')/\∀ x H',(Itet K a).yld i H x H'->g x σ H' fun σ2 H2=>tb { D with nx:=N,ct:=N,bk:=D.nx } σ2 H2):=by
 refine ⟨fun i m σ H=>m=xs.length - i/\i<=xs.length/\Pv i σ H,⟨xs.length,by simp,av _,h0⟩,?_⟩
 rintro i m σ H ⟨rfl,hi,p⟩
 have q:=hl i σ H hi p
 by_cases hlt:i < xs.length
 ·refine .inr ⟨⟨xs,xs[i],q,by simp [hlt]⟩,Pv (i+1),fun σ' H' p'=>⟨xs.length - (i+1),fi hlt (ej i),rfl,hlt,p'⟩,fun x H' y=>?_⟩
  obtain ⟨t,ht,rfl,w⟩:=y
  obtain ⟨u,e1,rfl⟩:=w xs q
  exact hs i u σ H t e1 p ht
 ·have e:i=xs.length:=by lia
  subst e
  exact .inl ⟨⟨xs,q,ai _⟩,hd σ H p⟩
open PySem PySem.Spec PyProof.Rows
section
variable {prog:Program}{w:World}{A:Around}{E:Value->Shared->Prop}{s:Shared}
end
section
variable {X:Cx}{pins:List (Addr×Obj)}{σ: St}{H:Hp}{s:Shared}{a:Addr}{y v:V}{u r:Value}{A:Around}{E:Value->Shared->Prop}
end
section
variable {X:Cx}{pins:List (Addr×Obj)}{σ: St}{H:Hp}{s:Shared}{A:Around}{E:Value->Shared->Prop}
end
open PySem PySem.Spec PyProof.Rows PySem.W
section
variable {n:Nat}(h0:0 < n)
include h0
end
open PySem PySem.Spec PyProof.Rows PySem.W HT
section
variable {prog:Program}{w:World}{A:Around}{E:Value->Shared->Prop}{s:Shared}
end
open PySem PySem.Spec PyProof.Rows
section
variable {prog:Program}{w:World}{A:Around}{E:Value->Shared->Prop}{s:Shared}
end
section
variable {g:TG}{tc:TT}{te:TE}
end
section
variable {X:Cx}
end
theorem aC6 {K:PySem.W.Frag}{a:Addr}{xs:List V}{g:TG}{tb:TS}{D:fY}{σ: St}{H:Hp}(Pv:Nat->St->Hp->Prop) (h0:Pv 0 σ H) (hl:∀ i σ H,i<=xs.length->Pv i σ H->bI K H a xs)
  (hs:∀ (D':fY),∀ i x σ H,xs[i]?=some x->Pv i σ H->g x σ H fun σ2 H2=>tb { D' with nx:=Pv (i+1),ct:=Pv (i+1),bk:=D'.nx } σ2 H2) (hd:∀ σ H,Pv xs.length σ H->D.nx σ H) :
  ∃ W:Nat->Nat->St->Hp->Prop,(∃ m,W 0 m σ H)/\∀ i m σ H,W i m σ H ->
   ((Itl K a).stop i H/\D.nx σ H)\/((Itl K a).go i H/\∃ N:St->Hp->Prop,(∀ σ' H',N σ' H'->∃ m',m' < m/\W (i+1) m' σ' H')/\∀ x H',(Itl K a).yld i H x H'->g x σ H' fun σ2 H2=>tb { D with nx:=N,ct:=N,bk:=D.nx } σ2 H2):=wT Pv h0 hl (hs D) hd
theorem vJ {K:PySem.W.Frag}{a:Addr}{xs:List V}{g:TG}{tb:TS}{D:fY}{σ: St}{H:Hp}(Pv:Nat->St->Hp->Prop) (h0:Pv 0 σ H) (hl:∀ i σ H,i<=xs.length->Pv i σ H->aQ K H a xs)
  (hs:∀ (D':fY),∀ i x σ H,xs[i]?=some x->Pv i σ H->g x σ H fun σ2 H2=>tb { D' with nx:=Pv (i+1),ct:=Pv (i+1),bk:=D'.nx } σ2 H2) (hd:∀ σ H,Pv xs.length σ H->D.nx σ H) :
  ∃ W:Nat->Nat->St->Hp->Prop,(∃ m,W 0 m σ H)/\∀ i m σ H,W i m σ H ->
   ((Itt K a).stop i H/\D.nx σ H)\/((Itt K a).go i H/\∃ N:St->Hp->Prop,(∀ σ' H',N σ' H'->∃ m',m' < m/\W (i+1) m' σ' H')/\∀ x H',(Itt K a).yld i H x H'->g x σ H' fun σ2 H2=>tb { D with nx:=N,ct:=N,bk:=D.nx } σ2 H2):=aR8 Pv h0 hl (hs D) hd
theorem mF {lo:Int}{n:Nat}{g:TG}{tb:TS}{D:fY}{σ: St}{H:Hp}(Pv:Nat->St->Hp->Prop) (h0:Pv 0 σ H)
  (hs:∀ (D':fY),∀ i σ H,i < n->Pv i σ H->g (.int (lo+i)) σ H fun σ2 H2=>tb { D' with nx:=Pv (i+1),ct:=Pv (i+1),bk:=D'.nx } σ2 H2) (hd:∀ σ H,Pv n σ H->D.nx σ H) :
  ∃ W:Nat->Nat->St->Hp->Prop,(∃ m,W 0 m σ H)/\∀ i m σ H,W i m σ H ->
   ((Itr lo n).stop i H/\D.nx σ H)\/((Itr lo n).go i H/\∃ N:St->Hp->Prop,(∀ σ' H',N σ' H'->∃ m',m' < m/\W (i+1) m' σ' H')/\∀ x H',(Itr lo n).yld i H x H'->g x σ H' fun σ2 H2=>tb { D with nx:=N,ct:=N,bk:=D.nx } σ2 H2):=tO Pv h0 (hs D) hd
theorem qK {K:PySem.W.Frag}{a:Addr}{xs:List V}{g:TG}{tb:TS}{D:fY}{σ: St}{H:Hp}(Pv:Nat->St->Hp->Prop) (h0:Pv 0 σ H) (hl:∀ i σ H,i<=xs.length->Pv i σ H->aQ K H a xs)
  (hs:∀ (D':fY),∀ i x σ H t,xs[i]?=some x->Pv i σ H->H t=none->g (.ref t) σ (aJ H t (.tup [.int i,x])) fun σ2 H2=>tb { D' with nx:=Pv (i+1),ct:=Pv (i+1),bk:=D'.nx } σ2 H2) (hd:∀ σ H,Pv xs.length σ H->D.nx σ H) :
  ∃ W:Nat->Nat->St->Hp->Prop,(∃ m,W 0 m σ H)/\∀ i m σ H,W i m σ H ->
   ((Itet K a).stop i H/\D.nx σ H)\/((Itet K a).go i H/\∃ N:St->Hp->Prop,(∀ σ' H',N σ' H'->∃ m',m' < m/\W (i+1) m' σ' H')/\∀ x H',(Itet K a).yld i H x H'->g x σ H' fun σ2 H2=>tb { D with nx:=N,ct:=N,bk:=D.nx } σ2 H2):=aF0 Pv h0 hl (hs D) hd
section
variable {X:Cx}
end
section
variable {prog:Program}{w:World}{A:Around}{E:Value->Shared->Prop}{s:Shared}
end
section
variable {X:Cx}{pos:Pos}
end
theorem bW3 {X:Cx}{tg l:Expr}{tl:TE}(K:PySem.W.Frag) (hl:PE X l tl) (hK:autoParam (X.K=K) Rq0._auto_1):PI X tg l (bR9 K tl):=by subst hK;exact mC hl
def ItR (K:PySem.W.Frag) (a:Addr) (n:Nat):It :=
 ⟨fun i H=>∃ xs,bI K H a xs/\xs.length=n/\i < n,fun i H x H'=>H'=H/\∀ ys,bI K H a ys->ys.reverse[i]?=some x,fun i H=>∃ xs,bI K H a xs/\xs.length=n/\n<=i⟩
theorem aP4 {P:Program}{w:World}{K:PySem.W.Frag}{tg:Expr}(a it:Addr) (n:Nat) (ne:a≠it):uP P w K tg (ItR K a n) [it] it (fun i h=>i<=n/\h.IsRevIter it a ((n:Int) - 1 - (i:Int))) where
 mem:=by simp
 obj:=fun i h st b hb=>by
  have e:b=it:=by simpa using hb
  subst e
  obtain ⟨_,o,e,c,d⟩:=st
  exact ⟨o,e,fun v z=>by rw [d] at z;cases z⟩
 keep:=fun i h h' st k=>⟨st.1,let ⟨o,e,r⟩:=st.2;⟨o,k it (by simp) o e,r⟩⟩
 item:=by
  intro X hP hw hK hc i pins s σ H E I hf st hg
  subst hP hw hK
  obtain ⟨xs,hq,hn,hi⟩:=hg
  obtain ⟨its,rv,p,hz⟩:=I.list hq
  have hl:=rv.length
  have sz:its.toArray.size=n:=by rw [bj];lia
  obtain ⟨f0,f1,f2,f3,f4,f5⟩:=hf it (by simp)
  have Wk:=vt (prog:=X.prog) (w:=X.w) (A:=X.A) (I.ok.hd hc) it a ne its.toArray
  refine Wk.item i s _ _ (by lia) ⟨by lia,by rw [sz];exact st.2,p.isList⟩ fun v h' tk pv st' kp=>?_
  have I1:bC X pins σ H { s with heap:=h',toks:=tk }:=I.turned (t':=tk) (fun b o hb e=>kp b o (by simpa using hb) e) f0 f1 f3 f4 f5
  have hx:i < xs.reverse.length:=by rw [ek];lia
  obtain ⟨u,hu,ru⟩:=rv.get (show xs[xs.length - 1 - i]?=some (xs[xs.length - 1 - i]'(by lia)) from de (by lia))
  obtain ⟨o,e,c,d⟩:=id st'.2.1
  have ev:v=u:=by
   have:its.toArray[its.toArray.size - 1 - i]?=some v:=pv
   rw [sz, <- hn] at this
   have t2:its[xs.length - 1 - i]?=some v:=by simpa using this
   rw [hu] at t2
   exact (dk t2).symm
  subst ev
  refine ⟨_,rfl,go_of (s:={ s with heap:=h',toks:=tk }) e c d (by decide) ⟨xs[xs.length - 1 - i]'(by lia),H,I1,ru,⟨rfl,fun ys hy=>?_⟩,⟨by lia,by have:=st'.2.1;rw [sz] at this;exact this⟩,fun b hb=>(hf b hb).1⟩⟩
  rw [I.list_inj hy hq,uw (by lia)]
  exact de (by lia)
 done:=by
  intro X hP hw hK hc i pins s σ H E I hf st hg
  subst hP hw hK
  obtain ⟨xs,hq,hn,hi⟩:=hg
  obtain ⟨its,rv,p,hz⟩:=I.list hq
  have hl:=rv.length
  have sz:its.toArray.size=n:=by rw [bj];lia
  obtain ⟨f0,f1,f2,f3,f4,f5⟩:=hf it (by simp)
  have Wk:=vt (prog:=X.prog) (w:=X.w) (A:=X.A) (I.ok.hd hc) it a ne its.toArray
  have ei:i=n:=by have:=st.1;lia
  refine Wk.done s _ _ ⟨ai _,by rw [sz, <- ei];have:=st.2;rw [<- ei] at this;exact this,p.isList⟩ fun h' tk kp=>⟨rfl,I.turned (t':=tk) (fun b o hb e=>kp b o (by simpa using hb) e) f0 f1 f3 f4 f5⟩
 self:=fun _ _ _ _ _ st h=>vk st.2 h
def bY2 (K:PySem.W.Frag) (te:TE):TI:=fun σ H R=>te σ H fun x H1=>∃ a ys,x= .ref a/\bI K H1 a ys/\R (ItR K a ys.length) H1
theorem aH0 {X:Cx}{tg:Expr}{e:Expr}{te:TE}{p2 pos2:Pos}(he:PE X e te) (g2:Gl X "reversed") (m2:X.mg "reversed"=none) (hs2:autoParam (starEach [e] X.env=[(false,eval e X.env)]) Rq0._auto_1) :
  PI X tg (.Call (.Name "reversed" p2) [e] [] pos2) (bY2 X.K te):=by
 intro pins s σ H R I h
 refine gu (kD I g2 m2 qy (ge ?_ hs2 rfl))
 rw [hs2]
 refine jn (dJ (he pins s σ H _ I h) ?_);rintro u s1 ⟨x,H1,I1,r1,a,ys,ex,hq,q⟩;refine js ?_
 subst ex
 cases r1
 obtain ⟨its,rv,pl,hz⟩:=I1.list hq
 have il:=pl.isList
 have len:=rv.length
 have sz:its.toArray.size=ys.length:=by rw [bj];lia
 have aLt:a < s1.heap.objs.size:=by
  obtain ⟨o,e,_⟩:=il
  exact aq e
 refine wv il ?_
 have st:(s1.heap.push (revObj a ((its.toArray.size:Int) - 1))).IsRevIter s1.heap.objs.size a ((ys.length:Int) - 1 - ((0:Nat):Int)):=by
  rw [sz,Int.natCast_zero,Int.sub_zero]
  exact ⟨_,br _ rfl,rfl,rfl⟩
 refine vk st ?_
 refine ⟨s1.heap.objs.size,[s1.heap.objs.size],_,ItR X.K a ys.length,H1,rfl,I1.kept (t':=s1.toks) fun b o e=>ah _ e,aP4 a _ ys.length (cg aLt),⟨av _,st⟩,fun b hb=>?_,q⟩
 have e:b=s1.heap.objs.size:=by simpa using hb
 subst e
 exact I1.fpOk (ai _) (I1.hok.fresh (ai _))
theorem vG {g:TG}{tc:TT}{te:TE}{K:PySem.W.Frag}{a:Addr}{xs:List V}{Kf:List V->Hp->Prop}{σ0:St}{H1:Hp}(Pv:Nat->List V->St->Hp->Prop) (hz:xs.length < sizeLine) (h0:Pv 0 [] σ0 H1) (hb:∀ i ys σ H,Pv i ys σ H->ys.length<=i) (hl:∀ i ys σ H,i<=xs.length->Pv i ys σ H->bI K H a xs)
  (hs:∀ i x ys σ H,xs.reverse[i]?=some x->Pv i ys σ H->g x σ H fun σ2 H2=>tc σ2 H2 fun b H3=>if b=true then te σ2 H3 fun y H4=>Pv (i+1) (ys++[y]) σ2 H4 else Pv (i+1) ys σ2 H3) (hd:∀ ys σ H,Pv xs.length ys σ H->Kf ys H):qI (ItR K a xs.length) g tc te Kf σ0 H1:=by
 refine ⟨fun i m ys σ H=>m=xs.length - i/\i<=xs.length/\Pv i ys σ H,⟨xs.length,rfl,av _,h0⟩,?_⟩
 rintro i m ys σ H ⟨rfl,le,p⟩
 have q:=hl i ys σ H le p
 refine ⟨dz (hb _ _ _ _ p) (dz le hz),?_⟩
 by_cases c:i < xs.length
 ·exact .inr ⟨⟨xs,q,rfl,c⟩,Pv (i+1),fun ys' σ' H' p'=>⟨xs.length - (i+1),fi c (ej i),rfl,c,p'⟩,fun x H' ⟨e,y⟩=>by
   subst e
   exact hs i x ys σ _ (y xs q) p⟩
 ·obtain rfl:i=xs.length:=by lia
  exact .inl ⟨⟨xs,q,rfl,ai _⟩,hd ys σ H p⟩
section
variable {X:Cx}
theorem yG:eM X (.type "dict") (fun xs H Q=>∃ (p:Addr) (kvs:List (Key×V)),xs=[.ref p]/\H p=some (.dK kvs)/\∀ d,H d=none->Q (.ref d) (aJ H d (.dK kvs))):=by
 intro pins s σ H xs us Q I r h
 obtain ⟨p,kvs,rfl,hp,q⟩:=h
 obtain ⟨u,rfl,ru⟩:=iN r
 cases ru
 obtain ⟨z,hd,vs,rel,dd⟩:=yY I.hok hp
 refine kt_call_dict hd dd (by rw [<- rel.length];exact z) fun h' hm hs=>?_
 refine ⟨.ref s.heap.objs.size,_,I.laid (t':=s.toks) (o:= .dK kvs) (fun b o e=>(hs.2 b (cg (aq e))).trans (ah _ e)) (ai _) ?_,rfl,q _ (I.hok.fresh (ai _))⟩
 exact yT z (ie.mpr (Ne.symm (cg I.big))) rel hm
def tR:Expr->Option (Int×Int)
 |.Tuple [.Constant (.int a) _ _,.Constant (.int b) _ _] _ _=>some (a,b)
 |_=>none
def pF:List Expr->Option (List (Int×Int))
 |[]=>some []
 |e :: r=>match tR e,pF r with
  |some p,some ps=>some (p :: ps)
  |_,_=>none
def fB (H:Hp):List V->List (Int×Int)->Prop
 |[],[]=>True
 |v :: vs,p :: ps=>(∃ a,v= .ref a/\H a=some (.tup [.int p.1,.int p.2]))/\fB H vs ps
 |_,_=>False
def aS2 (ps:List (Int×Int)):TA:=fun _ H Q=>∀ vs H',bB H H'->fB H' vs ps->Q vs H'
theorem qW:∀ {es:List Expr}{ps:List (Int×Int)},pF es=some ps->PA X es (aS2 ps)
 |[],ps,h=>by
  cases h
  exact fun _ _ _ _ H Q I q=>js ⟨[],H,I,.nil,q [] H (bB.refl _) trivial⟩
 |e :: r,ps,h=>by
  have h:(match tR e,pF r with | some p,some qs=>some (p :: qs) | _,_=>none)=some ps:=h
  cases h1:tR e with
  |none=>rw [h1] at h;cases h
  |some p =>
   cases h2:pF r with
   |none=>rw [h1,h2] at h;cases h
   |some qs =>
    rw [h1,h2] at h
    cases h
    unfold tR at h1
    split at h1
    ·rename_i a x1 x2 b x3 x4 x5 x6
     cases h1
     intro pos pins s σ H Q I q
     have ih:=qW (es:=r) (ps:=qs) h2
     have he:= @aL X [.Constant (.int a) x1 x2,.Constant (.int b) x3 x4] _ x6 x5 (aB aD (aB aD cF))
     show wpAny _ _ (spliced ((false,eval _ X.env) :: backTo pos (starEach r X.env))) _ _ s
     refine jn (dJ (he pins s σ H (fun v H1=>∃ t,H t=none/\v= .ref t/\H1=aJ H t (.tup [.int a,.int b])) I ⟨by show 2<=sizeLine;decide,fun t ht=>⟨t,ht,rfl,rfl⟩⟩) fun u s1 ⟨v,H1,I1,r1,t,ht,ev,eH⟩=>?_)
     subst ev eH
     refine dJ (ih pos pins s1 σ _ (fun vs H'=>bB (aJ H t (.tup [.int a,.int b])) H'/\fB H' vs qs) I1 fun vs H' s' p'=>⟨s',p'⟩) fun us s2 ⟨xs,H2,I2,r2,s',p'⟩=>⟨.ref t :: xs,H2,I2,.cons r1 r2,q _ H2 ((aA ht _).trans s') ⟨⟨t,rfl,s' _ _ aC⟩,p'⟩⟩
    ·cases h1
def rCatA:R2:=fun x y H Q=>∃ a b xs ys,x= .ref a/\y= .ref b/\H a=some (.tup xs)/\H b=some (.tup ys)/\xs.length+ys.length<=sizeLine/\∀ r H',bB H H'->H' r=some (.tup (xs++ys))->Q (.ref r) H'
theorem cI:jX X (binaryOp .Add) rCatA:=by
 intro pins s σ H x y v u Q I rx ry h
 obtain ⟨a,b,xs,ys,rfl,rfl,ha,hb,hz,q⟩:=h
 by_cases hx:xs=[]
 ·subst hx
  cases rx
  cases ry
  obtain ⟨its,r1,p1,_⟩:=I.tuple (aQ.of ha)
  obtain ⟨its2,r2,p2,_⟩:=I.tuple (aQ.of hb)
  cases r1
  obtain ⟨⟨cls,dd,data,sl⟩,ho,hc,n,hd⟩:=id p1
  obtain ⟨⟨cls2,dd2,data2,sl2⟩,ho2,hc2,n2,hd2⟩:=id p2
  simp only at hc hd hc2 hd2
  subst hc hd hc2 hd2
  exact wp ⟨_,ho,rfl⟩ ⟨_,ho2,rfl⟩ rz vq nh mf (lz _ _)
   (tuple_addW0 a b _ its2.toArray n n2 dd dd2 sl sl2 (by simp)) ⟨ho,ho2,.ref b,H,I,rfl,q b H (bB.refl _) hb⟩
 ·refine aV0 pins s σ H _ _ v u Q I rx ry ⟨a,b,xs,ys,rfl,rfl,aQ.of ha,aQ.of hb,hx,hz,fun e=>?_,fun _ p hp=>q p _ (aA hp _) aC⟩
  subst e
  exact q a H (bB.refl _) (by rw [gj];exact ha)
end
section
variable {prog:Program}{w:World}{A:Around}{E:Value->Shared->Prop}{s:Shared}
end
section
variable {X:Cx}{pins:List (Addr×Obj)}{σ: St}{H:Hp}{s:Shared}{A:Around}{E:Value->Shared->Prop}
end
section
variable {prog:Program}{w:World}{K:Type} [DecidableEq K] {knd:KeyKind prog w K}{A:Around}{E:Value->Shared->Prop}{s:Shared}
end
section
variable {X:Cx}
end
theorem lY {X:Cx}{j:Nat}{p p2:Pos}:PE X (.UnaryOp .USub (.Constant (.int 1) j p) p2) (tC (.int (-1))):=fun pins s σ H Q I h =>
 aN8 (X:=X) xI aD pins s σ H Q I ⟨1,rfl,h⟩
section
variable {X:Cx}
def bP1 (t:TT):TT:=fun σ H Q=>∃ P:Bool->Hp->Prop,t σ H P/\∀ b G,P b G->Q b G
theorem dY {e:Expr}{t:TT}(h:PT X e t):PT X e (bP1 t):=by
 intro pins s σ H Q I ⟨P,h1,h2⟩
 refine dJ (h pins s σ H P I h1) ?_;rintro b s' ⟨G,I',p⟩;exact ⟨G,I',h2 b G p⟩
def bQ4 (t:TS):TS:=fun D σ H=>∃ P:St->Hp->Prop,t { D with nx:=P } σ H/\∀ σ' G,P σ' G->D.nx σ' G
theorem fK {st:Stmt}{t:TS}(h:PS X st t):PS X st (bQ4 t):=by
 intro pins s σ H D I ⟨P,h1,h2⟩
 refine dJ (h pins s σ H _ I h1) fun f s' q=>?_
 cases f with
 |next =>
  obtain ⟨σ',G,I',p⟩:=q
  exact ⟨σ',G,I',h2 σ' G p⟩
 |ret v=>exact q
 |brk=>exact q
 |cont=>exact q
end
section
variable {X:Cx}{o e:Expr}{es:List Expr}{to:TE}{t:TA}{name:Str}{apos cpos:Pos}{T id:String}{r:V->List V->Hp->VK->Prop}
theorem bB6 (K:PySem.W.Frag) (pa:PlainAttrs T) (slot:Slot T name id) (hty:typeOf (.builtin id)=pure (.type "method_descriptor")) (hm:MtR X id r) (ho:PE X o to) (ha:PA X (e :: es) t) (hK:autoParam (X.K=K) Rq0._auto_1)
  (hbase:autoParam (attributeBase o name X.env (eval o X.env)=eval o X.env) Rq0._auto_1)
  (hfew:autoParam (((backTo cpos (starEach (e :: es) X.env)).all (fun x=> !x.1) && (backToKw cpos (keywordEach [] X.env)).all (fun x=>x.1.isSome)
   && decide ((e :: es).length+([]:List Keyword).length+(if ([]:List Keyword).isEmpty then 0 else 1) < 30))=true) Rq0._auto_1)
  (hline:autoParam ((apos.endLine == cpos.line)=true) Rq0._auto_1) (hs:autoParam (starEach (e :: es) X.env=(false,eval e X.env) :: starEach es X.env) Rq0._auto_1) (hplain:autoParam ((backTo cpos (starEach es X.env)).any (·.1)=false) Rq0._auto_1):PE X (.Call (.Attribute o name apos) (e :: es) [] cpos) (tBM K T r to t):=by
 subst hK
 exact dG pa slot hty hm ho ha hbase hfew hline hs hplain
end
def mX (σ: List Key) (k:Key):Bool:=σ.any fun j=>decide (j=k)
theorem kT {σ: List Key}{k:Key}:mX σ k=true↔k∈σ:=by
 unfold mX
 rw [oa]
 constructor
 ·rintro ⟨j,m,e⟩
  rw [<- ag e];exact m
 ·exact fun m=>⟨k,m,af rfl⟩
def xE (σ: List Key) (k:Key):List Key:=if mX σ k=true then σ else σ++[k]
def dd (ks:List Key):List Key:=ks.foldl xE []
theorem zS (ks:List Key) (k:Key):dd (ks++[k])=xE (dd ks) k:=by unfold dd;rw [List.foldl_append];rfl
theorem zA {σ: List Key}{k j:Key}:j∈xE σ k↔j∈σ\/j=k:=by
 unfold xE
 split
 ·rename_i h
  constructor
  ·exact .inl
  ·rintro (z | z)
   ·exact z
   ·rw [z];exact kT.mp h
 ·simp
theorem sO:∀ (ks σ: List Key),(ks.foldl xE σ).length<=σ.length+ks.length
 |[],σ=>ai _
 |k :: r,σ=>by
  have:=sO r (xE σ k)
  have h2:(xE σ k).length<=σ.length+1:=by unfold xE;split <;> simp
  rw [io,cu]
  lia
theorem aM2 (ks:List Key):(dd ks).length<=ks.length:=by have:=sO ks [];simpa [dd] using this
theorem tH:∀ (ks σ: List Key) (j:Key),j∈ks.foldl xE σ↔j∈σ\/j∈ks
 |[],σ,j=>by simp
 |k :: r,σ,j=>by
  rw [io,tH r,zA,cq]
  constructor
  ·rintro ((h | h) | h)
   ·exact .inl h
   ·exact .inr (.inl h)
   ·exact .inr (.inr h)
  ·rintro (h | h | h)
   ·exact .inl (.inl h)
   ·exact .inl (.inr h)
   ·exact .inr h
theorem bD9 (ks:List Key) (j:Key):j∈dd ks↔j∈ks:=by unfold dd;rw [tH];simp
theorem oE:∀ (ks σ: List Key),(σ++ks).Nodup->ks.foldl xE σ=σ++ks
 |[],σ,_=>by simp
 |k :: r,σ,h=>by
  have hk:k∉σ:=fun m=>by
   rw [mq] at h
   exact h.2.2 k m k bh rfl
  rw [io,show xE σ k=σ++[k] from ar (fun z=>hk (kT.mp z)),oE r (σ++[k]) (by simpa using h)]
  simp
theorem aO7 {ks:List Key}(h:ks.Nodup):dd ks=ks:=by have:=oE ks [] (by simpa using h);simpa [dd] using this
section
variable {prog:Program}{w:World}{A:Around}{R:Result->Shared->Prop}{I:Addr}{fp wr:List Addr}{G:Array GenState->Array GenState->Prop}{n:Nat}{P:Nat->Value->Prop}{St:Nat->Shared->Prop}
theorem aE0 (W:WalksS prog w A.in1 I fp wr G n P St) (S:Addr) (hSf:S∉fp) (ks:List Key) (hn:ks.length=n) (hval:∀ i v,P i v->∃ k,ks[i]?=some k/\lZ k v=true) (hb:n+1 < scanBound) :
  ∀ (k i:Nat) (s:Shared),n - i=k->i<=n->St i s ->
   s.heap.SetOf (cG prog w) S (mX (dd (ks.take i))) (dd (ks.take i)).length ->
   (∀ s',Moved (S :: wr) G s s'->s'.heap.SetOf (cG prog w) S (mX (dd ks)) (dd ks).length->R (.ok (.ret .none)) s') ->
   codeAny (model prog w) A (.builtin "set.update.loop" ⟨[.ref S,.ref I],[]⟩) R s:=by
 have hSw:S∉wr:=fun h=>hSf (W.sub _ h)
 have hsub:∀ b∈wr,b∈S :: wr:=fun b hb=>ay _ hb
 intro k
 induction k with
 |zero =>
  intro i s hk hi hst hS hR
  have hin:i=n:=by lia
  subst hin
  refine jp sy ?_
  rw [je mh _]
  show wpAny _ A.in1 (pyNext (.ref I) >>= _) _ _ s
  refine ac (W.done s _ _ hst fun s' hm=>?_)
  show wpAny _ A.in1 (ret Value.none) _ _ s'
  rw [<- hn,ci] at hS
  exact ao (hR s' (hm.mono hsub) (by
   obtain ⟨o,es,ep,t,ho,rest⟩:=hS
   exact ⟨o,es,ep,t,hm.heap S _ hSw ho,rest⟩))
 |succ k ih =>
  intro i s hk hi hst hS hR
  have hlt:i < n:=by lia
  refine jp sy ?_
  rw [je mh _]
  show wpAny _ A.in1 (pyNext (.ref I) >>= _) _ _ s
  refine ac (W.item i s _ _ hlt hst fun v s' hP hst' hm=>?_)
  obtain ⟨kk,hkk,his⟩:=hval i v hP
  have hS':s'.heap.SetOf (cG prog w) S (mX (dd (ks.take i))) (dd (ks.take i)).length:=by
   obtain ⟨o,es,ep,tb,ho,rest⟩:=hS
   exact ⟨o,es,ep,tb,hm.heap S _ hSw ho,rest⟩
  have hsc:v.scannable=true:=by rcases dA his with ⟨i,t,rfl,rfl⟩ | ⟨x,t,rfl,rfl⟩ <;> rfl
  show wpAny _ A.in1 (holding [v] (setAdd S v) >>= _) _ _ s'
  refine ac (gw ?_)
  unfold setAdd
  refine gw ?_
  refine ac ((cG prog w).pyHash (k:=kk) his ?_)
  have hroom:(dd (ks.take i)).length+1 < scanBound:=by have:=aM2 (ks.take i);rw [cv] at this;lia
  refine wpAny_setAddHashed_of (knd:=cG prog w) (s:={ s' with toks:=s'.toks+1 }) his hsc hS' hroom fun h' hsb hS2=>?_
  have hSi:h'.SetOf (cG prog w) S (mX (dd (ks.take (i+1)))) (dd (ks.take (i+1))).length:=by
   have e:ks.take (i+1)=ks.take i++[kk]:=by rw [qj,hkk];rfl
   rw [e,zS]
   have e1:(fun k'=>mX (dd (ks.take i)) k' || decide (k'=kk))=mX (xE (dd (ks.take i)) kk):=funext fun k'=>by
    rw [ja,Bool.or_eq_true,xq,kT,kT]
    exact zA.symm
   have e2:(if mX (dd (ks.take i)) kk=true then (dd (ks.take i)).length else (dd (ks.take i)).length+1)=(xE (dd (ks.take i)) kk).length:=by
    unfold xE
    by_cases c:mX (dd (ks.take i)) kk=true
    ·rw [bc c,bc c]
    ·rw [ar c,ar c,ak,uq]
   rw [<- e1, <- e2]
   exact hS2
  refine ao ⟨kq mh _,ih (i+1) _ (by lia) hlt (W.frame _ s' _ _ hst' (df _) fun b hb o e=>?_) hSi fun s'' hm'' hS''=>?_⟩
  ·rw [hsb.2 b (fun h:b=S=>hSf (by rw [<- h];exact hb))];exact e
  ·refine hR s'' (Moved.trans W.gtrans ((hm.mono hsub).then_heap (df _) fun b o hb e=>?_) hm'') hS''
   rw [hsb.2 b (fun h:b=S=>hb (by rw [h];exact bh))];exact e
end
theorem wP {T newId initId:String}{prog:Program}{w:World}{A:Around}{E:Value->Shared->Prop}{s:Shared}{args:List Value}{Q Q₁:Value->Shared->Prop}(ft:TypeCalled T newId initId) (hct:checkTypeCall T ⟨args,[]⟩=pure ())
  (hn:codeAny (model prog w) A.in1 (.call (.builtin newId) ⟨.type T :: args,[]⟩) (wants Q₁ E) s)
  (hi:∀ obj t,Q₁ obj t->t.TypeIs obj T/\codeAny (model prog w) A.in1 (.call (.builtin initId) ⟨obj :: args,[]⟩) (wants (fun r u=>r= .none/\Q obj u) E) t) :
  wpAny (model prog w) A (call (.type T) args) Q E s:=by
 have z1:=ft.notType;have z2:=ft.canCreate;have z3:=ft.made;have z4:=ft.sub
 obtain ⟨c,tl,z5⟩:=ft.mro
 refine on (codeAny_of_tree (show wpAny _ _ (callAny (.type T) _) _ _ _ from ao ⟨qt _ (by decide +kernel),jp F.entry_type_call ?_⟩))
 rw [Around.under_plain (weight_type_call_type T args []) rfl]
 repeat (any_goals (first | assumption | wp_step))
 refine lv hn fun r t hr=>?_
 match r,hr with
 |.error e,hr=>exact hr
 |.ok .next,hr=>exact hr.elim
 |.ok .brk,hr=>exact hr.elim
 |.ok .cont,hr=>exact hr.elim
 |.ok (.ret obj),hr =>
  obtain ⟨hT,hc⟩:=hi _ _ hr
  have y1:=ft.init.lookup;have y2:=ft.init.bind obj
  repeat (any_goals (first | assumption | wp_step))
  refine lv hc fun r2 t2 hr2=>?_
  match r2,hr2 with
  |.error e,hr2=>exact hr2
  |.ok .next,hr2=>exact hr2.elim
  |.ok .brk,hr2=>exact hr2.elim
  |.ok .cont,hr2=>exact hr2.elim
  |.ok (.ret r),hr2 =>
   obtain ⟨rfl,hq⟩:=hr2
   repeat (any_goals (first | assumption | wp_step))
theorem aJ4:isSubtype (.type "tuple") (.type "set")=pure false:=by rw [uv];kernel_rfl
theorem wV:isSubtype (.type "tuple") (.type "frozenset")=pure false:=by rw [uv];kernel_rfl
section
variable {prog:Program}{w:World}{A:Around}{E:Value->Shared->Prop}{s:Shared}
abbrev fO (led:Bool):Obj:={ cls:= .type "set",dict:=none,data:= .set #[] 0 (.fresh 0 0 led) }
theorem aF4 {l:Addr}{items:Array Value}{ks:List Key}{Q:Value->Shared->Prop}(hh:A.handled=none) (hl:s.heap.IsTuple l items) (hk:ks.length=items.size) (hi:∀ (i:Nat) (v:Value),items[i]?=some v->∃ k,ks[i]?=some k/\lZ k v=true) (hb:items.size+1 < scanBound)
  (q:∀ (h':Heap) (tk:Nat),h'.SetOf (cG prog w) s.heap.objs.size (mX (dd ks)) (dd ks).length->(∀ b o,s.heap.get? b=some o->h'.get? b=some o)->Q (.ref s.heap.objs.size) { s with heap:=h',toks:=tk }) :
  wpAny (model prog w) A (call (.type "set") [.ref l]) Q E s:=by
 have lS:l < s.heap.objs.size:=by obtain ⟨o,e,_⟩:=hl;exact aq e
 refine wP (Q₁:=fun obj t=>∃ led,obj= .ref s.heap.objs.size/\t={ s with heap:=s.heap.push (fO led) }) F.called_set (F.typeCall_set_1 _) (code_set_new_1 _ fun led=>⟨led,rfl,rfl⟩) ?_
 rintro _ _ ⟨led,rfl,rfl⟩
 have gS:(s.heap.push (fO led)).get? s.heap.objs.size=some (fO led):=br _ rfl
 have tS:Shared.TypeIs { s with heap:=s.heap.push (fO led) } (.ref s.heap.objs.size) "set":=⟨_,gS,rfl⟩
 have tl:(s.heap.push (fO led)).IsTuple l items:=hl.at fun o e=>ah _ e
 refine ⟨tS,pd F.called_set.init.plain F.entry_set_init (check_set_init_1 tS ?_)⟩
 obtain ⟨⟨oc,od,oda,osl⟩,ho,hc,n0,hd⟩:=id tl
 dsimp only at hc hd
 subst hc hd
 have f1:=aJ4;have f2:=wV
 have f3:(Value.type "tuple" == Value.type "dict")=false:=by decide
 have T1:Heap.IsTuple (Shared.heap { s with heap:=s.heap.push (fO led) }) l items:=tl
 unfold Builtin.«set.__init__» noKeywords Builtin.Frozenset.updateFrom
 wp_walk using jm T1
 have z1:(s.heap.push (fO led)).objs.size=s.heap.objs.size+1:=jg ..
 have hne:l≠(s.heap.push (fO led)).objs.size:=by rw [z1];exact cg (ju lS)
 have hSf:s.heap.objs.size∉[(s.heap.push (fO led)).objs.size,l]:=by
  rw [z1]
  simp only [List.mem_cons,List.not_mem_nil,or_false,not_or]
  exact ⟨cg (ej _),jh lS⟩
 have gS2:((s.heap.push (fO led)).push { cls:= .type "tuple_iterator",data:= .fields #[.ref l,.int 0 0] }).get? s.heap.objs.size=some (fO led):=ah _ gS
 refine aE0 (A:=A.in1.in1) ((Walks.tuple (show A.in1.in1.in1.handled=none from hh) _ l hne items).toS) s.heap.objs.size hSf ks hk hi hb (items.size - 0) 0 _ rfl (av _) ⟨⟨_,br _ rfl,rfl,rfl⟩,tl.at fun o e=>ah _ e⟩
  ⟨_,_,_,_,gS2,⟨rfl,rfl,rfl⟩,rfl,fun e he=>absurd he (by simp),fun k=>⟨fun z=>absurd z (by simp [dd,mX]),(by rintro ⟨e,he,_⟩;exact absurd he (by simp))⟩,by decide,rfl,rfl⟩ fun s' hm hS'=>?_
 obtain ⟨h',g',d',tk',os'⟩:=s'
 obtain rfl:g'=s.gens:=hm.gens
 obtain rfl:d'=s.drawn:=hm.drawn
 obtain rfl:os'=s.os:=hm.os
 refine ao (ao ⟨rfl,q h' tk' hS' fun b o e=>hm.heap b o ?_ (ah _ (ah _ e))⟩)
 have bl:=aq e
 rw [z1]
 simp only [List.mem_cons,List.not_mem_nil,or_false,not_or]
 exact ⟨cg bl,cg (ju bl)⟩
end
section
variable {X:Cx}
def tL (P:Program) (w:World) (a:Addr) (ks:List Key):HO:= .ext fun h=>h.SetOf (cG P w) a (mX (dd ks)) (dd ks).length
theorem sM:∀ {ks:List Key}{us:List Value},bN (ks.map kV) us->∀ (i:Nat) (v:Value),us[i]?=some v->∃ k,ks[i]?=some k/\lZ k v=true
 |[],_,h,i,v,e=>by cases h;simp at e
 |k :: r,_,h,i,v,e=>by
  rw [gv] at h
  cases h with
  |cons h1 h2 =>
   cases i with
   |zero =>
    simp only [List.getElem?_cons_zero,Option.some.injEq] at e
    subst e
    cases k with
    |inl n=>obtain ⟨t,rfl⟩:=h1;exact ⟨_,rfl,tQ n t⟩
    |inr x=>obtain ⟨t,rfl⟩:=h1;exact ⟨_,rfl,sN x t⟩
   |succ i=>exact sM h2 i v (by simpa using e)
theorem tP (P:Program) (w:World) {k:Nat}(hr:eE k X.A) (hP:autoParam (X.prog=P) Rq0._auto_1) (hw:autoParam (X.w=w) Rq0._auto_1):eM X (.type "set") (fun xs H Q=>∃ (p:Addr) (ks:List Key),xs=[.ref p]/\aQ X.K H p (ks.map kV)/\ks.length<=1000/\∀ a,H a=none->Q (.ref a) (aJ H a (tL P w a ks))):=by
 subst hP hw
 intro pins s σ H xs us Q I r h
 obtain ⟨p,ks,rfl,hp,hl,q⟩:=h
 obtain ⟨u,rfl,ru⟩:=iN r
 cases ru
 obtain ⟨its,rv,pl,_⟩:=I.tuple hp
 have ln:=rv.length
 rw [aa] at ln
 refine aF4 (items:=its.toArray) (ks:=ks) hr.hd pl (by rw [bj];exact ln) (fun i v e=>sM rv i v (by simpa using e)) (by rw [List.size_toArray, <- ln];unfold scanBound;lia) fun h' tk hS kp=>?_
 refine ⟨.ref s.heap.objs.size,_,I.laid (t':=tk) (o:=tL X.prog X.w s.heap.objs.size ks) kp (ai _) ?_,rfl,q _ (I.hok.fresh (ai _))⟩
 refine ⟨hS,?_,(by rintro h1 h2 ⟨o,es,ep,t,ho,rest⟩ k2;exact ⟨o,es,ep,t,k2 o ho,rest⟩)⟩
 obtain ⟨o,_,_,_,ho,_⟩:=hS
 exact ⟨o,ho⟩
theorem sE (P:Program) (w:World) (hP:autoParam (X.prog=P) Rq0._auto_1) (hw:autoParam (X.w=w) Rq0._auto_1):eM X (.builtin "len") (fun xs H Q=>∃ (a:Addr) (ks:List Key),xs=[.ref a]/\H a=some (tL P w a ks)/\Q (.int (dd ks).length) H):=by
 subst hP hw
 intro pins s σ H xs us Q I r h
 obtain ⟨a,ks,rfl,ha,q⟩:=h
 obtain ⟨u,rfl,ru⟩:=iN r
 cases ru
 obtain ⟨⟨o,es,ep,t,ho,hex,hd,_,_,hb,hf,hn⟩,_,_⟩:=(show cK X.prog X.w H s.heap a (tL X.prog X.w a ks) from I.hok a _ ha)
 rw [<- hn] at q
 exact call_len_set ho hex hd hf (by unfold scanBound at hb;lia) ⟨.int es.size,H,I.tok _,⟨_,rfl⟩,q⟩
end
theorem bF9 {X:Cx}:jX X (compareOp .Is) (fun x y H Q=>∃ a b,x= .bl a/\y= .bl b/\Q (.bl (a == b)) H):=by
 intro pins s σ H x y v u Q I rx ry h
 obtain ⟨a,b,rfl,rfl,q⟩:=h
 cases rx
 cases ry
 exact is_bool ⟨.bl (a == b),H,I,rfl,q⟩
theorem aF5 {d:Addr}{o:Obj}{kvs:List (Key×V)}{g:TG}{tb:TS}{D:fY}{σ: St}{H:Hp}(Pv:Nat->St->Hp->Prop) (h0:Pv 0 σ H) (hl:∀ i σ H,i<=kvs.length->Pv i σ H->H d=some (.frz o (.dK kvs)))
  (hs:∀ (D':fY),∀ i k v σ H,kvs[i]?=some (k,v)->Pv i σ H->g (kV k) σ H fun σ2 H2=>tb { D' with nx:=Pv (i+1),ct:=Pv (i+1),bk:=D'.nx } σ2 H2) (hd:∀ σ H,Pv kvs.length σ H->D.nx σ H) :
  ∃ W:Nat->Nat->St->Hp->Prop,(∃ m,W 0 m σ H)/\∀ i m σ H,W i m σ H ->
   ((Itd d o kvs).stop i H/\D.nx σ H)\/((Itd d o kvs).go i H/\∃ N:St->Hp->Prop,(∀ σ' H',N σ' H'->∃ m',m' < m/\W (i+1) m' σ' H')/\∀ x H',(Itd d o kvs).yld i H x H'->g x σ H' fun σ2 H2=>tb { D with nx:=N,ct:=N,bk:=D.nx } σ2 H2):=by
 refine ⟨fun i m σ H=>m=kvs.length - i/\i<=kvs.length/\Pv i σ H,⟨_,rfl,av _,h0⟩,?_⟩
 rintro i m σ H ⟨rfl,hi,p⟩
 by_cases c:i < kvs.length
 ·right
  refine ⟨⟨c,hl i σ H hi p⟩,Pv (i+1),fun σ' H' p'=>⟨kvs.length - (i+1),by lia,rfl,c,p'⟩,?_⟩
  rintro x H' ⟨rfl,k,v,e,rfl⟩
  exact hs D i k v σ _ e p
 ·left
  have e:i=kvs.length:=by lia
  exact ⟨⟨by lia,hl i σ H hi p⟩,hd σ H (by rw [<- e];exact p)⟩
theorem aU7 (n:Nat):ixN (n+1) (-1)=some n:=by
 unfold ixN
 rw [ar (by decide),bc (by lia)]
 exact dg some (by lia)
theorem pS {X:Cx}:bN4 X (fun o i H Q=>∃ p xs v,o= .ref p/\i= .int (-1)/\bI X.K H p (xs++[v])/\Q v H):=by
 intro pins s σ H o i ov iv Q I ro ri h
 obtain ⟨p,xs,v,rfl,rfl,hq,q⟩:=h
 cases ro
 obtain ⟨t,rfl⟩:=ri
 obtain ⟨its,r,pl,hz⟩:=I.list hq
 obtain ⟨w,ew,rw'⟩:=r.get (i:=xs.length) (x:=v) (by simp)
 have hl:=r.length
 rw [ak,cu,jo] at hl
 have hn:=kJ
 have hj:(-1+(its.toArray.size:Int)).toNat=xs.length:=by rw [bj];lia
 exact ug pl.isList (by decide) (by rw [bj];lia) (by lia) (by rw [hj];simpa using ew) ⟨v,H,I,rw',q⟩
theorem qN {X:Cx}:bJ9 X (fun o i v H Q=>∃ p xs y,o= .ref p/\i= .int (-1)/\H p=some (.lst (xs++[y]))/\Q (aJ H p (.lst (xs++[v])))):=by
 intro pins s σ H o i v ov iv u Q I ro ri rv h
 obtain ⟨p,xs,y,rfl,rfl,hp,q⟩:=h
 refine aM1 pins s σ H _ _ v ov iv u Q I ro ri rv ⟨p,_,-1,xs.length,rfl,rfl,hp,?_,?_⟩
 ·rw [ak]
  exact aU7 _
 ·rw [List.set_append_right _ _ (ai _),Nat.sub_self]
  exact q
section
variable {prog:Program}{w:World}{A:Around}{E:Value->Shared->Prop}{s:Shared}{a:Addr}{S:Key->Bool}{n:Nat}{led:Bool}
end
section
variable {prog:Program}{w:World}{A:Around}{E:Value->Shared->Prop}{s:Shared}
end
section
variable {prog:Program}{w:World}{A:Around}{E:Value->Shared->Prop}{s:Shared}{a:Addr}{o:Obj}{es:Array (Int×Value)}{ep:Nat}{t:SetTable}
end
section
variable {prog:Program}{w:World}{A:Around}{E:Value->Shared->Prop}{s:Shared}{a it tp:Addr}{o:Obj}{es:Array (Int×Value)}{ep:Nat}{t:SetTable}
end
section
variable {prog:Program}{w:World}{A:Around}{E:Value->Shared->Prop}{s:Shared}{d it:Addr}{o:Obj}{es:Array DictEntry}{ep i:Nat}
end
section
variable {prog:Program}{w:World}{A:Around}{E:Value->Shared->Prop}{s:Shared}
end
section
variable {X:Cx}
end
open PySem PySem.Spec PyProof.Rows PySem.MeetsSeq
section
variable {prog:Program}{w:World}{A:Around}{E:Value->Shared->Prop}{s:Shared}
end
def lG (a b:Int×Int):Bool:=decide (a.1 < b.1) || (decide (a.1=b.1) && decide (a.2 < b.2))
section
variable {prog:Program}{w:World}{A:Around}{E:Value->Shared->Prop}{s:Shared}
theorem eqI (x y:Int) (t u:Tok) (R:Bool->Shared->Prop) (F:Value->Shared->Prop) (q:R (decide (x=y)) s):wpAny (model prog w) A (eqBool (.int x t) (.int y u)) R F s :=
 wu x t y u prog w F R (by rw [show (x == y)=decide (x=y) from rfl];exact q)
theorem ltI (x y:Int) (t u:Tok) (R F:Value->Shared->Prop) (q:R (.bool (decide (x < y))) s):wpAny (model prog w) A (richCompare .Lt (.int x t) (.int y u)) R F s :=
 CmpOf.ints_lt (P:=fun i v=>∃ t,v=Value.int (if i=0 then x else y) t) (fun i=>if i=0 then x else y) (fun _ _ h=>h) 0 1 _ _ s R F ⟨t,rfl⟩ ⟨u,rfl⟩ q
theorem aV5 (l b:Addr) (m1 c1 m2 c2:Int) (t1 t2 u1 u2:Tok) (z1 z2:Value) (n n2:Nat) (dd dd2:Option Addr) (sl sl2:Array (Option Value)) (ne:(m1,c1)≠(m2,c2)):MeetsIn prog w (Builtin.«tuple.__lt__» ⟨[.ref l,.ref b],[]⟩)
  (fun A R s=>s.heap.get? l=some { cls:= .type "tuple",dict:=dd,data:= .seq #[.int m1 t1,.int c1 u1,z1] n,slots:=sl }/\s.heap.get? b=some { cls:= .type "tuple",dict:=dd2,data:= .seq #[.int m2 t2,.int c2 u2,z2] n2,slots:=sl2 }/\R (.ok (.ret (.bool (lG (m1,c1) (m2,c2))))) s) :=
 .of_wp fun A R s h=>by
  obtain ⟨hp,g,d,tk,os⟩:=s
  obtain ⟨hl,hb,h⟩:=h
  have f2:=AutoSeq1.sub_tuple_tuple
  have e:([(Value.int m1 t1,Value.int m2 t2),(Value.int c1 u1,Value.int c2 u2),(z1,z2)]:List (Value×Value))=(#[Value.int m1 t1,Value.int c1 u1,z1]).toList.zip (#[Value.int m2 t2,Value.int c2 u2,z2]).toList:=rfl
  wp_walk using dv hl,dv hb,wpAny_forIn_list _ (fun rest b s'=>s'=⟨hp,g,d,tk,os⟩/\((b.1=none/\rest=[(Value.int m1 t1,Value.int m2 t2),(Value.int c1 u1,Value.int c2 u2),(z1,z2)])\/(b.1=none/\m1=m2/\rest=[(Value.int c1 u1,Value.int c2 u2),(z1,z2)]))) _
  case turn =>
   rintro ⟨y,x⟩ rest b s' ⟨rfl,hz⟩
   rcases hz with ⟨hn,hz⟩ | ⟨hn,hm,hz⟩
   ·cases hz
    refine ac (eqI _ _ _ _ _ _ ?_)
    by_cases c:m1=m2
    ·rw [af c]
     wp_walk
     exact ⟨rfl,.inr ⟨rfl,c,rfl⟩⟩
    ·rw [au c]
     have e2:lG (m1,c1) (m2,c2)=decide (m1 < m2):=by unfold lG;simp [c]
     rw [e2] at h
     wp_walk using ltI m1 m2 t1 t2 _ _
     exact ⟨_,rfl,h⟩
   ·cases hz
    refine ac (eqI _ _ _ _ _ _ ?_)
    have c:¬ c1=c2:=fun z=>ne (by rw [hm,z])
    rw [au c]
    have e2:lG (m1,c1) (m2,c2)=decide (c1 < c2):=by unfold lG;simp [hm]
    rw [e2] at h
    wp_walk using ltI c1 c2 u1 u2 _ _
    exact ⟨_,rfl,h⟩
  case fin =>
   rintro ⟨b1,b2⟩ s' ⟨rfl,hz⟩
   rcases hz with ⟨_,hz⟩ | ⟨_,_,hz⟩ <;> cases hz
  case h=>exact ⟨rfl,.inl ⟨rfl,rfl⟩⟩
theorem aT5 {l b:Addr}{m1 c1 m2 c2:Int}{t1 t2 u1 u2:Tok}{z1 z2:Value}{Q:Value->Shared->Prop}(hl:s.heap.IsTuple l #[.int m1 t1,.int c1 u1,z1]) (hb:s.heap.IsTuple b #[.int m2 t2,.int c2 u2,z2]) (hu:A.units < cLine) (ne:(m1,c1)≠(m2,c2))
  (q:Q (.bool (lG (m1,c1) (m2,c2))) s):wpAny (model prog w) A (richCompare .Lt (.ref l) (.ref b)) Q E s:=by
 obtain ⟨⟨cls,dd,data,sl⟩,ho,hc,n,hd⟩:=id hl
 obtain ⟨⟨cls2,dd2,data2,sl2⟩,ho2,hc2,n2,hd2⟩:=id hb
 simp only at hc hd hc2 hd2
 subst hc hd hc2 hd2
 have k1:s.TypeIs (.ref l) "tuple":=⟨_,ho,rfl⟩
 have k2:s.TypeIs (.ref b) "tuple":=⟨_,ho2,rfl⟩
 refine wpAny_richCompare_same_room k1 k2 vc ?_ hu
 exact call_meetsIn vc k1 PySem.F.entry_tuple_lt (PySem.F.args_tuple_lt_2 _ _) (aV5 l b m1 c1 m2 c2 t1 t2 u1 u2 z1 z2 n n2 dd dd2 sl sl2 ne) ⟨ho,ho2,(fun x=>nomatch x),q⟩
end
def KpB (B h:Heap):Prop:=∀ b o,B.get? b=some o->h.get? b=some o
theorem uV (bt:Nat->Nat->Bool) (k:Nat):argBest bt k<=k:=by
 induction k with
 |zero=>exact ai 0
 |succ k ih =>
  rw [argBest]
  split
  ·exact ai _
  ·lia
section
variable {prog:Program}{w:World}{A:Around}{R:Result->Shared->Prop}{I:Addr}{fp wr:List Addr}{n:Nat}{P:Nat->Value->Prop}{St:Nat->Heap->Prop}{B:Heap}
theorem pJ:(toString "min"++toString ".loop": String)="min.loop":=by decide
theorem aC3 (W:Walks prog w A.in1 I fp wr n P St) (bt:Nat->Nat->Bool) (hB:∀ b o,B.get? b=some o->b∉wr) {S:Addr}(nf:S∉fp) (nB:B.get? S=none)
  (less:∀ i j x y (t:Shared) (Q F:Value->Shared->Prop),i≠j->P i x->P j y->KpB B t.heap->Q (.bool (bt i j)) t->wpAny (model prog w) A.in1 (richCompare .Lt x y) Q F t) (m:Nat) :
  ∀ (j:Nat) (t:Shared) (x:Value) (c:Nat),j+1+m=n->St (j+1) t.heap->KpB B t.heap->P (argBest bt j) x->t.heap.get? S=some ⟨.type "list",none,.seq #[x,x] c, #[]⟩ ->
  (∀ v h' tk,P (argBest bt (n - 1)) v->KpB B h'->R (.ok (.ret v)) { t with heap:=h',toks:=tk })->codeAny (model prog w) A (.builtin "min.loop" ⟨[.ref I,.none,.ref S],[]⟩) R t:=by
 have nw:S∉wr:=fun z=>nf (W.sub _ z)
 have other:∀ b o,B.get? b=some o->S≠b:=fun b o e z=>by rw [<- z,nB] at e;cases e
 induction m with
 |zero =>
  intro j t x c em st kb px es r
  refine jp sj (Eq.mpr (dg (fun z=>wpAny _ z _ _ _ t) (je iu _)) (ac (jy es rfl (ac (qk (W.done t _ _ (em ▸ st) fun h' tk k=>?_))))))
  refine ac (oy (k S _ nw es) rfl (ac (qo (ao (r x _ tk (by rw [<- em];exact px) fun b o e=>?_)))))
  exact (fh _ _ (other b o e)).trans (k b o (hB b o e) (kb b o e))
 |succ m ih =>
  intro j t x c em st kb px es r
  refine jp sj (Eq.mpr (dg (fun z=>wpAny _ z _ _ _ t) (je iu _)) (ac (jy es rfl (ac (qk (W.item (j+1) t _ _ (by lia) st fun v h' tk pv st' k=>?_))))))
  have es':=k S _ nw es
  have kb':KpB B h':=fun b o e=>k b o (hB b o e) (kb b o e)
  have bl:=uV bt j
  refine ac (ao ?_)
  change wpAny (model prog w) A.in1 (tryCatch (holding [v,v] (richCompare CmpOp.Lt v x >>= _)) _ >>= _) _ _ _
  refine ac (qk (gw (ac (less (j+1) (argBest bt j) v x _ _ _ (by lia) pv px kb' (ac (gw (dy (ac (qo (ao ?_))))))))))
  cases hlt:bt (j+1) (argBest bt j) with
  |true =>
   refine ac (oy es' rfl (ac (qo ?_)))
   rw [pJ]
   refine ao ⟨kq iu _,ih (j+1) _ v _ (by lia) (W.frame _ _ _ st' fun b bf o e=>(fh _ _ (fun z:S=b=>nf (by rw [z];exact bf))).trans e) (fun b o e=>(fh _ _ (other b o e)).trans (kb' b o e)) (by rw [argBest,bc hlt];exact pv) (eo _ es' rfl) r⟩
  |false =>
   refine ac (qo ?_)
   rw [pJ]
   exact ao ⟨kq iu _,ih (j+1) _ x c (by lia) st' kb' (by rw [argBest,ar (by rw [hlt];exact bi)];exact px) es' r⟩
theorem aD5 (W:Walks prog w A.in1 I fp wr n P St) (bt:Nat->Nat->Bool) (hB:∀ b o,B.get? b=some o->b∉wr) {S:Addr}(nf:S∉fp) (nB:B.get? S=none)
  (less:∀ i j x y (t:Shared) (Q F:Value->Shared->Prop),i≠j->P i x->P j y->KpB B t.heap->Q (.bool (bt i j)) t->wpAny (model prog w) A.in1 (richCompare .Lt x y) Q F t) {t:Shared}{c:Nat}(n0:0 < n) (st:St 0 t.heap) (kb:KpB B t.heap) (es:t.heap.get? S=some ⟨.type "list",none,.seq #[] c, #[]⟩)
  (r:∀ v h' tk,P (argBest bt (n - 1)) v->KpB B h'->R (.ok (.ret v)) { t with heap:=h',toks:=tk }):codeAny (model prog w) A (.builtin "min.loop" ⟨[.ref I,.none,.ref S],[]⟩) R t:=by
 have nw:S∉wr:=fun z=>nf (W.sub _ z)
 have other:∀ b o,B.get? b=some o->S≠b:=fun b o e z=>by rw [<- z,nB] at e;cases e
 refine jp sj (Eq.mpr (dg (fun z=>wpAny _ z _ _ _ t) (je iu _)) (ac (jy es rfl (ac (qk (W.item 0 t _ _ n0 st fun v h' tk pv st' k=>?_))))))
 have es':=k S _ nw es
 refine ac (ao ?_)
 change wpAny (model prog w) A.in1 (updateSeq S (fun _=> #[v,v]) >>= _) _ _ _
 refine ac (oy es' rfl ?_)
 rw [pJ]
 exact ao ⟨kq iu _,aC3 W bt hB nf nB less (n - 1) 0 _ v _ (by lia) (W.frame _ _ _ st' fun b bf o e=>(fh _ _ (fun z:S=b=>nf (by rw [z];exact bf))).trans e) (fun b o e=>(fh _ _ (other b o e)).trans (k b o (hB b o e) (kb b o e))) pv (eo _ es' rfl) r⟩
end
theorem zM {a b:Int×Int}(h:a≠b):lG a b= !lG b a:=by
 obtain ⟨a1,a2⟩:=a
 obtain ⟨b1,b2⟩:=b
 have h:¬ (a1=b1/\a2=b2):=fun z=>h (by rw [z.1,z.2])
 unfold lG
 by_cases c:a1 < b1
 ·have:¬ b1 < a1:=by lia
  have:¬ b1=a1:=by (exact oqt)
  simp [*]
 ·by_cases d:a1=b1
  ·subst d
   have:¬ a2=b2:=fun z=>h ⟨rfl,z⟩
   by_cases e:a2 < b2
   ·have:¬ b2 < a2:=by lia
    simp [*]
   ·have:b2 < a2:=by lia
    simp [*]
  ·have:b1 < a1:=by lia
   simp [*]
theorem bJ6 {a b c:Int×Int}(h:lG a b=true) (k:lG b c=true):lG a c=true:=by
 unfold lG at *
 simp only [Bool.or_eq_true,Bool.and_eq_true,decide_eq_true_eq] at *
 lia
theorem aM0 (f:Nat->Int×Int) (k:Nat) (nd:∀ i j,i<=k->j<=k->i≠j->f i≠f j):∀ i,i<=k->i≠argBest (fun i j=>lG (f i) (f j)) k->lG (f (argBest (fun i j=>lG (f i) (f j)) k)) (f i)=true:=by
 induction k with
 |zero=>intro i hi z;exact absurd (by rw [argBest];lia) z
 |succ k ih =>
  have ih:=ih fun i j hi hj=>nd i j (by lia) (by lia)
  have bl:=uV (fun i j=>lG (f i) (f j)) k
  intro i hi z
  rw [argBest] at z ⊢
  by_cases c:lG (f (k+1)) (f (argBest (fun i j=>lG (f i) (f j)) k))=true
  ·rw [bc c] at z ⊢
   by_cases e:i=argBest (fun i j=>lG (f i) (f j)) k
   ·rw [e];exact c
   ·exact bJ6 c (ih i (by lia) e)
  ·rw [ar c] at z ⊢
   by_cases e:i=k+1
   ·rw [e,zM (nd _ _ (by lia) (by (exact ai _)) (by lia))]
    simpa using c
   ·exact ih i (by lia) z
theorem aW6 {x y z:V}{us:List Value}(r:bN [x,y,z] us):∃ u v w,us=[u,v,w]/\bX x u/\bX y v/\bX z w:=by
 cases r with
 |cons a r=>cases r with
  |cons b r=>cases r with
   |cons c r=>cases r;exact ⟨_,_,_,rfl,a,b,c⟩
theorem aG0 {X:Cx}{k:Nat}(hr:eE (k+1) X.A) (hc:autoParam (X.calm=true) Rq0._auto_1):eM X (.builtin "min") (fun xs H Q=>∃ (p:Addr) (as:List Addr) (ks:List (Int×Int)),xs=[.ref p]/\bI X.K H p (as.map V.ref)/\ks.length=as.length/\ks.Nodup/\as≠[] /\
  (∀ (i:Nat) (a:Addr) (m:Int×Int),as[i]?=some a->ks[i]?=some m->∃ z,H a=some (.tup [.int m.1,.int m.2,z])) /\
  ∀ (i:Nat) (a:Addr) (m:Int×Int),as[i]?=some a->ks[i]?=some m->(∀ m'∈ks,m'≠m->lG m m'=true)->Q (.ref a) H):=by
 intro pins s σ H xs us Q I r h
 obtain ⟨p,as,ks,rfl,hq,hlen,nd,hne,tu,q⟩:=h
 obtain ⟨u,rfl,ru⟩:=iN r
 cases ru
 obtain ⟨its,rv,pl,hz⟩:=I.list hq
 have it:=pl.isList
 have lp:p < s.heap.objs.size:=by
  obtain ⟨o,e,_⟩:=it
  exact aq e
 have hl:=rv.length
 rw [aa] at hl
 have hpos:0 < its.length:=by
  rw [<- hl]
  cases as with
  |nil=>exact absurd rfl hne
  |cons _ _=>simp
 have val:∀ (i:Nat) (v:Value),its.toArray[i]?=some v->∃ a,as[i]?=some a/\v=Value.ref a:=fun i v hv=>by
  have hi:its[i]?=some v:=by simpa using hv
  have hb:i < as.length:=by
   have:=(az.mp hi).1
   lia
  obtain ⟨u,hu,ru⟩:=rv.get (i:=i) (x:=V.ref as[i]) (by rw [dh,de hb];rfl)
  rw [hi] at hu
  cases hu
  exact ⟨_,de hb,ru⟩
 let f:Nat->Int×Int:=fun i=>ks.getD i (0,0)
 have fk:∀ i,i < as.length->ks[i]?=some (f i):=fun i hi=>by
  rw [de (by lia)]
  show _=some (ks.getD i (0,0))
  simp [List.getD,show i < ks.length by lia]
 have fn:∀ i j,i < as.length->j < as.length->i≠j->f i≠f j:=fun i j hi hj n z=>by
  have e1:=fk i hi
  have e2:=fk j hj
  rw [z] at e1
  obtain ⟨h1,g1⟩:=az.mp e1
  obtain ⟨h2,g2⟩:=az.mp e2
  exact n ((rm nd).mp (g1.trans g2.symm))
 have less:∀ (i j:Nat) (x y:Value) (t:Shared) (Q F:Value->Shared->Prop),i≠j->its.toArray[i]?=some x->its.toArray[j]?=some y->KpB s.heap t.heap->Q (.bool (lG (f i) (f j))) t->wpAny (model X.prog X.w) X.A.in1 (richCompare .Lt x y) Q F t:=by
  intro i j x y t Q F n ex ey kb qq
  obtain ⟨a,ea,rfl⟩:=val _ _ ex
  obtain ⟨b,eb,rfl⟩:=val _ _ ey
  have ha:=(az.mp ea).1
  have hb:=(az.mp eb).1
  obtain ⟨z1,t1⟩:=tu _ _ _ ea (fk i ha)
  obtain ⟨z2,t2⟩:=tu _ _ _ eb (fk j hb)
  obtain ⟨i1,r1,T1,_⟩:=I.tuple (.inl (.inl t1))
  obtain ⟨i2,r2,T2,_⟩:=I.tuple (.inl (.inl t2))
  obtain ⟨v1,v2,v3,rfl,⟨k1,rfl⟩,⟨k2,rfl⟩,_⟩:=aW6 r1
  obtain ⟨w1,w2,w3,rfl,⟨l1,rfl⟩,⟨l2,rfl⟩,_⟩:=aW6 r2
  refine aT5 (m1:=(f i).1) (c1:=(f i).2) (m2:=(f j).1) (c2:=(f j).2) (let ⟨o,e,g⟩:=T1;⟨o,kb _ _ e,g⟩) (let ⟨o,e,g⟩:=T2;⟨o,kb _ _ e,g⟩) (by have:=hr.in1.un;lia) (fn i j ha hb n) qq
 have bl:=uV (fun i j=>lG (f i) (f j)) (its.length - 1)
 have nS:∀ (b:Addr) (o:Obj),s.heap.get? b=some o->b∉[s.heap.objs.size]:=fun b o e z=>by
  have z:b=s.heap.objs.size:=by simpa using z
  exact absurd (aq e) (by rw [z];exact ef _)
 refine call_function_tree F.kind_min F.plain_min F.entry_min (F.args_min1 _) (ac (wpAny_of_eq (show Builtin.Builtins.bindParams "min" ["key","default"] 0 ⟨[],[]⟩=pure [none,none] from rfl) (ac (ao (ac (jr it ?_))))))
 refine ac (fj ?_)
 rw [pJ]
 refine ao ⟨kq iu _,aD5 (B:=s.heap) (vj (A:=X.A.in1) (I.ok.hd hc) s.heap.objs.size p (cg lp) its.toArray) (fun i j=>lG (f i) (f j)) nS ?_ ?_ less ?_ ?_ ?_ (br _ rfl) ?_⟩
 ·intro z
  change (s.heap.push _).objs.size∈[s.heap.objs.size,p] at z
  rw [jg] at z
  simp only [List.mem_cons,List.not_mem_nil,or_false] at z
  rcases z with z | z
  ·exact absurd z (yg _)
  ·rw [<- z] at lp;exact absurd lp (rj.mpr (df _))
 ·change s.heap.get? (s.heap.push _).objs.size=none
  rw [jg]
  exact oj (df _)
 ·rw [bj];exact hpos
 ·exact ⟨⟨_,ah _ (br _ rfl),rfl,rfl⟩,it.at fun o e=>ah _ (ah _ e)⟩
 ·exact fun b o e=>ah _ (ah _ e)
 ·intro v h' tk hv kb
  rw [bj] at hv
  obtain ⟨a,ea,rfl⟩:=val _ _ hv
  have ha:=(az.mp ea).1
  refine ⟨.ref a,H,I.kept kb,rfl,q _ a (f (argBest (fun i j=>lG (f i) (f j)) (its.length - 1))) ea (fk _ ha) fun m' hm n=>?_⟩
  obtain ⟨i,hi,e⟩:=List.mem_iff_getElem.mp hm
  have ei:f i=m':=by
   have:=fk i (by lia)
   rw [de hi,e] at this
   exact (dk this).symm
  rw [<- ei] at n ⊢
  exact aM0 f (its.length - 1) (fun i j h1 h2 n=>fn i j (by lia) (by lia) n) i (by lia) (fun z=>n (by rw [z]))
open PySem
theorem hV {H:Hp}{l:Addr}(h:H l=none) (o:HO):∃ H2,aJ H l o=H2/\bB H H2/\H2 l=some o:=⟨_,rfl,aA h o,aC⟩
theorem eQ:1<=sizeLine:=by decide
theorem bJ:2<=sizeLine:=by decide
end L2
namespace Mine
open PySem L2
def shD (p q:Int) (n:Nat):Int:=(q+p) * q ^ n
def tD (p q k:Int):Int:=if 0<=k then shD p q k.toNat else shD p q (1 - k).toNat
def lD (p q k:Int):Int:=if k < 1 - k then shD p q (1 - k).toNat else shD p q k.toNat
theorem aW0 {H H':Hp}{d l p:Addr}{xs:List V}(D:cS H d l) (o:dZ d l H H') (h:H p=some (.tup xs)):H' p=some (.tup xs):=by
 obtain ⟨sd,n,ls,D⟩:=D;exact o _ _ h (jE h D.dc (by intro z;cases z)) (jE h D.lc (by intro z;cases z))
def zW (K:W.Frag):Sp:=fun vs H Q _=>∃ (a:Addr) (ns:List Int),vs=[.ref a]/\bI K H a (ns.map V.int)/\ns.length<=63/\∀ H',Q (.bl true) H'
def eL {α: Type}(R:V->α->Prop):List V->List α->Prop
 |[],[]=>True
 |v :: vs,a :: as=>R v a/\eL R vs as
 |_,_=>False
theorem eL.mono {α: Type}{R R':V->α->Prop}(h:∀ v a,R v a->R' v a):∀ {vs:List V}{as:List α},eL R vs as->eL R' vs as
 |[],[],_=>trivial
 |_ :: _,_ :: _,⟨e,r⟩=>⟨h _ _ e,eL.mono h r⟩
 |[],_ :: _,z=>z.elim
 |_ :: _,[],z=>z.elim
theorem eL.append {α: Type}{R:V->α->Prop}:∀ {vs ws:List V}{as bs:List α},eL R vs as->eL R ws bs->eL R (vs++ws) (as++bs)
 |[],_,[],_,_,r=>r
 |_ :: _,_,_ :: _,_,⟨e,r⟩,r2=>⟨e,eL.append r r2⟩
 |[],_,_ :: _,_,z,_=>z.elim
 |_ :: _,_,[],_,z,_=>z.elim
theorem eL.length {α: Type}{R:V->α->Prop}:∀ {vs:List V}{as:List α},eL R vs as->vs.length=as.length
 |[],[],_=>rfl
 |_ :: _,_ :: _,⟨_,r⟩=>by simp [eL.length r]
 |[],_ :: _,z=>z.elim
 |_ :: _,[],z=>z.elim
def TS (H H':Hp):Prop:=∀ a xs,H a=some (.tup xs)->H' a=some (.tup xs)
theorem TS.of {H H':Hp}(s:bB H H'):TS H H':=fun _ _ e=>s _ _ e
theorem TS.trans {H H1 H2:Hp}(a:TS H H1) (b:TS H1 H2):TS H H2:=fun c o h=>b c o (a c o h)
theorem TS.lst {H:Hp}{l:Addr}{xs ys:List V}(h:H l=some (.lst xs)):TS H (aJ H l (.lst ys)):=fun a o e=>by
 rw [aH (jE e h (by intro z;cases z))];exact e
theorem TS.out {H H':Hp}{d l:Addr}(D:cS H d l) (o:dZ d l H H'):TS H H':=fun p xs h=>aW0 D o h
theorem bF {H H1:Hp}{l:Addr}{ys:List V}(s:bB H H1) (h:H l=none):bB H (aJ H1 l (.lst ys)):=fun b o e=>by
 rw [aH (aK e h)];exact s b o e
theorem bK {α: Type}{l:List α}{i:Nat}{x:α}(h:l[i]?=some x):l.take (i+1)=l.take i++[x]:=by
 rw [qj,h];rfl
def eD (p q n y:Int):Int:=shD p q (y - n).natAbs
structure fY (lo hi:Int):Prop where
 a:0<=lo
 b:lo<=hi
 c:hi<=9
theorem bC6 {z:Str}{r:Int}(h0:0<=r) (h1:r < (z.length:Int)):∃ c,oK z.cps.toList r=some c:=by
 have hk:r.toNat < z.cps.toList.length:=by
  rw [pq];exact (Int.toNat_lt h0).mpr h1
 have e2:((r.toNat:Nat):Int)=r:=pw h0;have q:oK z.cps.toList ((r.toNat:Nat):Int)=some z.cps.toList[r.toNat]:=zD (de hk);rw [e2] at q;exact ⟨_,q⟩
theorem xA:∀ {zs:List Str},(∀ z∈zs,z.length=1)->(zs.map (·.length)).sum=zs.length
 |[],_=>rfl
 |z :: r,h=>by
  have h1:=h z bh;have h2:=xA fun y hy=>h y (ay z hy)
  simp only [List.map_cons,List.sum_cons,List.length_cons,h1,h2]
  lia
theorem qF (sep:Str):∀ (ys:List Str) (a:Array Nat),(ys.foldl (fun acc p=>acc++sep.cps++p.cps) a).size=a.size+(ys.map (·.length)).sum+ys.length * sep.length
 |[],a=>by simp
 |y :: r,a=>by
  rw [io,qF sep r];simp only [Array.size_append,List.map_cons,List.sum_cons,List.length_cons,Nat.add_mul,Nat.one_mul];have e1:sep.cps.size=sep.length:=rfl;have e2:y.cps.size=y.length:=rfl
  lia
theorem aG4 (sep:Str) (ys:List Str):(Txt.join sep ys).length<=(ys.map (·.length)).sum+ys.length * sep.length:=by
 cases ys with
 |nil=>exact av _
 |cons y r =>
  show (List.foldl (fun acc p=>acc++sep.cps++p.cps) y.cps r).size<=_;rw [qF];simp only [List.map_cons,List.sum_cons,List.length_cons,Nat.add_mul,Nat.one_mul];have e2:y.cps.size=y.length:=rfl
  lia
def aX4:List Str:=["kinds","ladder","flat","choose","first","let","tell","when","else","times","end","of"]
theorem nX:∀ xs:List Str,(xs.map V.str).all lV=true
 |[]=>rfl
 |_ :: r=>nX r
structure jW (H:Hp) (d l ls:Addr) (ts:List V):Prop where
 deal:cS H d l
 ne:ls≠l
 lst:H ls=some (.lst ts)
theorem jW.new {H:Hp}{d l ls:Addr}(D:cS H d l) (h:H ls=none):jW (aJ H ls (.lst [])) d l ls []:=by
 obtain ⟨sd,n,l',q⟩:=id D;exact ⟨D.same (aA h _),(aK q.lc h).symm,aC⟩
theorem jW.same {H H':Hp}{d l ls:Addr}{ts:List V}(S:jW H d l ls ts) (s:bB H H'):jW H' d l ls ts:=⟨S.deal.same s,S.ne,s _ _ S.lst⟩
theorem jW.app {H:Hp}{d l ls:Addr}{ts:List V}(S:jW H d l ls ts) (us:List V):jW (aJ H ls (.lst us)) d l ls us:=by
 refine ⟨?_,S.ne,aC⟩;obtain ⟨sd,n,l',q⟩:=S.deal;exact ⟨sd,n,l',⟨by rw [aH (jE q.dc S.lst (by intro z;cases z))];exact q.dc,by rw [aH S.ne.symm];exact q.lc,q.s0,q.s1,q.n0,q.l0⟩⟩
inductive Tm where
 |num (p:Addr) (n:Int)
 |nam (p:Addr) (x:Str)
 |op (p:Addr) (s:Str) (a b:Tm)
def Tm.p:Tm->Addr
 |.num p _=>p
 |.nam p _=>p
 |.op p _ _ _=>p
def Tm.names:Tm->List Str
 |.num _ _=>[]
 |.nam _ x=>[x]
 |.op _ _ a b=>a.names++b.names
def Tm.size:Tm->Nat
 |.op _ _ a b=>1+a.size+b.size
 |_=>1
def Tm.deep:Tm->Nat
 |.op _ _ a b=>1+max a.deep b.deep
 |_=>1
def bR8:List Str:=["+","-","*","<","="]
def Tm.ok:Tm->Prop
 |.num _ n=>0<=n/\n < 1000
 |.nam _ _=>True
 |.op _ s a b=>s∈bR8/\a.ok/\b.ok
def Tm.fine (t:Tm):Prop:=t.ok/\t.size<=100
def jT (H:Hp):Tm->Prop
 |.num p n=>H p=some (.tup [.str "num",.int n])
 |.nam p x=>H p=some (.tup [.str "name",.str x])
 |.op p s a b=>H p=some (.tup [.str "op",.str s,.ref a.p,.ref b.p])/\jT H a/\jT H b
theorem jT.ts {H H':Hp}(t:TS H H'):∀ {a:Tm},jT H a->jT H' a
 |.num _ _,h=>t _ _ h
 |.nam _ _,h=>t _ _ h
 |.op _ _ _ _,⟨h,ha,hb⟩=>⟨t _ _ h,jT.ts t ha,jT.ts t hb⟩
def Tm.w:Tm->Str
 |.num _ _=>"num"
 |.nam _ _=>"name"
 |.op _ _ _ _=>"op"
def Tm.rest:Tm->List V
 |.num _ n=>[.int n]
 |.nam _ x=>[.str x]
 |.op _ s a b=>[.str s,.ref a.p,.ref b.p]
theorem jT.at {H:Hp}:∀ {t:Tm},jT H t->H t.p=some (.tup (.str t.w :: t.rest))
 |.num _ _,h=>h
 |.nam _ _,h=>h
 |.op _ _ _ _,h=>h.1
theorem Tm.size_pos:∀ t:Tm,1<=t.size
 |.num _ _=>ai _
 |.nam _ _=>ai _
 |.op _ _ _ _=>by unfold Tm.size;lia
def Tm.pre:Tm->List Tm
 |.num p n=>[.num p n]
 |.nam p x=>[.nam p x]
 |.op p s a b=> .op p s a b :: (a.pre++b.pre)
theorem Tm.pre_len:∀ t:Tm,t.pre.length=t.size
 |.num _ _=>rfl
 |.nam _ _=>rfl
 |.op _ _ a b=>by simp only [Tm.pre,Tm.size,List.length_cons,List.length_append,Tm.pre_len a,Tm.pre_len b];lia
theorem jT.pre {H:Hp}:∀ {t:Tm},jT H t->∀ u∈t.pre,jT H u
 |.num _ _,h,u,hu=>by rw [dq.mp hu];exact h
 |.nam _ _,h,u,hu=>by rw [dq.mp hu];exact h
 |.op _ _ _ _,h,u,hu=>by
  rcases cq.mp hu with e | e
  ·rw [e];exact h
  ·rcases du.mp e with e | e
   ·exact jT.pre h.2.1 u e
   ·exact jT.pre h.2.2 u e
inductive Rw where
 |thr (p:Addr) (w x:Str) (vs:List V) (am:Bool)
 |lt (p:Addr) (x:Str) (t:Tm)
 |tell (p:Addr) (t:Tm)
 |when (p pa pb:Addr) (t:Tm) (a b:List Rw)
 |times (p pb:Addr) (n:Int) (b:List Rw)
def Rw.p:Rw->Addr
 |.thr p _ _ _ am=>p
 |.lt p _ _=>p
 |.tell p _=>p
 |.when p _ _ _ _ _=>p
 |.times p _ _ _=>p
def dF:List Str:=["ladder","flat","choose","first"]
def Sm (H:Hp) (v:V):Prop:=∃ p us,v= .ref p/\H p=some (.tup us)/\us.length<=100
def Sms (H:Hp) (v:V):Prop:=∃ p us,v= .ref p/\H p=some (.tup us)/\us.length<=100/\∀ u∈us,Sm H u
theorem Sm.ts {H H':Hp}(t:TS H H') {v:V}(h:Sm H v):Sm H' v:=by
 obtain ⟨p,us,e,h,l⟩:=h;exact ⟨p,us,e,t _ _ h,l⟩
theorem Sms.ts {H H':Hp}(t:TS H H') {v:V}(h:Sms H v):Sms H' v:=by
 obtain ⟨p,us,e,h,l,k⟩:=h;exact ⟨p,us,e,t _ _ h,l,fun u hu=>(k u hu).ts t⟩
def kG (H:Hp) (w:Str) (vs:List V) (am:Bool):Prop :=
 (w∈(["ladder","flat"]:List Str)/\∃ a b lo hi,vs=[a,b,.int lo,.int hi]/\Sm H a/\am=decide (hi < lo)) \/
 (w="choose"/\∃ a b lo hi,vs=[a,b,.int lo,.int hi]/\Sms H a/\am=decide (hi < lo)) \/
 (w="first"/\∃ mark a q c lo hi x y,vs=[.int mark,a,.ref q,c,.int lo,.int hi]/\H q=some (.tup [.int x,.int y])/\Sms H c/\0<=x/\x<=100/\am=decide (hi<=lo\/¬ (lo<=mark/\mark<=hi)\/y < 2 * x))
theorem kG.ts {H H':Hp}(t:TS H H') {w:Str}{vs:List V}{am:Bool}(h:kG H w vs am):kG H' w vs am:=by
 rcases h with ⟨e,a,b,lo,hi,h1,h2,h3⟩ | ⟨e,a,b,lo,hi,h1,h2,h3⟩ | ⟨e,mark,a,q,c,lo,hi,x,y,h1,h2,h3,h4⟩
 ·exact .inl ⟨e,a,b,lo,hi,h1,h2.ts t,h3⟩
 ·exact .inr (.inl ⟨e,a,b,lo,hi,h1,h2.ts t,h3⟩)
 ·exact .inr (.inr ⟨e,mark,a,q,c,lo,hi,x,y,h1,t _ _ h2,h3.ts t,h4⟩)
theorem kG.w {H:Hp}{w:Str}{vs:List V}{am:Bool}(h:kG H w vs am):w∈dF:=by
 rcases h with ⟨h,_⟩ | ⟨h,_⟩ | ⟨h,_⟩
 ·simp only [List.mem_cons,List.not_mem_nil,or_false] at h;rcases h with h | h <;> simp [dF,h]
 ·simp [dF,h]
 ·simp [dF,h]
mutual
def cJ (H:Hp):Rw->Prop
 |.thr p w x vs am=>H p=some (.tup (.str w :: .str x :: vs))/\kG H w vs am
 |.lt p x t=>H p=some (.tup [.str "let",.str x,.ref t.p])/\jT H t/\t.fine
 |.tell p t=>H p=some (.tup [.str "tell",.ref t.p])/\jT H t/\t.fine
 |.when p pa pb t a b=>H p=some (.tup [.str "when",.ref t.p,.ref pa,.ref pb])/\jT H t/\t.fine/\H pa=some (.tup (a.map fun r=>V.ref r.p))/\H pb=some (.tup (b.map fun r=>V.ref r.p))/\aX H a/\aX H b
 |.times p pb n b=>H p=some (.tup [.str "times",.int n,.ref pb])/\H pb=some (.tup (b.map fun r=>V.ref r.p))/\aX H b
def aX (H:Hp):List Rw->Prop
 |[]=>True
 |r :: rs=>cJ H r/\aX H rs
end
mutual
theorem cJ.ts {H H':Hp}(t:TS H H'):∀ (r:Rw),cJ H r->cJ H' r
 |.thr _ _ _ _ _,⟨h,k⟩=>⟨t _ _ h,k.ts t⟩
 |.lt _ _ _,⟨h,h2,h3⟩=>⟨t _ _ h,h2.ts t,h3⟩
 |.tell _ _,⟨h,h2,h3⟩=>⟨t _ _ h,h2.ts t,h3⟩
 |.when _ _ _ _ a b,⟨h,h2,h3,h4,h5,h6,h7⟩=>⟨t _ _ h,h2.ts t,h3,t _ _ h4,t _ _ h5,aX.ts t a h6,aX.ts t b h7⟩
 |.times _ _ _ b,⟨h,h2,h3⟩=>⟨t _ _ h,t _ _ h2,aX.ts t b h3⟩
theorem aX.ts {H H':Hp}(t:TS H H'):∀ (rs:List Rw),aX H rs->aX H' rs
 |[],_=>trivial
 |r :: rs,⟨h,k⟩=>⟨cJ.ts t r h,aX.ts t rs k⟩
end
theorem aX.app {H:Hp}:∀ {rs qs:List Rw},aX H rs->aX H qs->aX H (rs++qs)
 |[],_,_,h=>h
 |_ :: _,_,⟨h,k⟩,h2=>⟨h,aX.app k h2⟩
theorem aX.mem {H:Hp}:∀ {rs:List Rw},aX H rs->∀ r∈rs,cJ H r
 |[],_,_,h=>absurd h dj
 |r :: rs,⟨h,k⟩,x,hx=>by
  rcases cq.mp hx with e | e
  ·rw [e];exact h
  ·exact aX.mem k x e
def Rw.w:Rw->Str
 |.thr _ w _ _ am=>w
 |.lt _ _ _=>"let"
 |.tell _ _=>"tell"
 |.when _ _ _ _ _ _=>"when"
 |.times _ _ _ _=>"times"
def Rw.rest:Rw->List V
 |.thr _ _ x vs am=> .str x :: vs
 |.lt _ x t=>[.str x,.ref t.p]
 |.tell _ t=>[.ref t.p]
 |.when _ pa pb t _ _=>[.ref t.p,.ref pa,.ref pb]
 |.times _ pb n _=>[.int n,.ref pb]
theorem cJ.at {H:Hp}:∀ {r:Rw},cJ H r->H r.p=some (.tup (.str r.w :: r.rest))
 |.thr _ _ _ _ _,h=>h.1
 |.lt _ _ _,h=>h.1
 |.tell _ _,h=>h.1
 |.when _ _ _ _ _ _,h=>h.1
 |.times _ _ _ _,h=>h.1
mutual
def Rw.cnt:Rw->Nat
 |.when _ _ _ _ a b=>1+(aP a+aP b)
 |.times _ _ _ b=>1+aP b
 |.thr _ _ _ _ _=>1
 |.lt _ _ _=>1
 |.tell _ _=>1
def aP:List Rw->Nat
 |[]=>0
 |r :: rs=>r.cnt+aP rs
end
theorem cM:∀ (rs qs:List Rw),aP (rs++qs)=aP rs+aP qs
 |[],qs=>by simp [aP]
 |r :: rs,qs=>by simp only [List.cons_append,aP,cM rs qs];lia
theorem Rw.cnt_pos:∀ r:Rw,1<=r.cnt
 |.thr _ _ _ _ _=>ai _
 |.lt _ _ _=>ai _
 |.tell _ _=>ai _
 |.when _ _ _ _ _ _=>by unfold Rw.cnt;(exact oqI)
 |.times _ _ _ _=>by unfold Rw.cnt;(exact oqI)
theorem eI:∀ rs:List Rw,rs.length<=aP rs
 |[]=>av _
 |r :: rs=>by have:=eI rs;have:=r.cnt_pos;simp only [List.length_cons,aP];lia
def Rw.kids:Rw->List Rw
 |.when _ _ _ _ a b=>a++b
 |.times _ _ _ b=>b
 |.thr _ _ _ _ _=>[]
 |.lt _ _ _=>[]
 |.tell _ _=>[]
theorem aP0:∀ r:Rw,r.cnt=1+aP r.kids
 |.when _ _ _ _ a b=>by simp only [Rw.cnt,Rw.kids,cM]
 |.times _ _ _ b=>by simp only [Rw.cnt,Rw.kids]
 |.thr _ _ _ _ _=>by simp only [Rw.cnt,Rw.kids,aP]
 |.lt _ _ _=>by simp only [Rw.cnt,Rw.kids,aP]
 |.tell _ _=>by simp only [Rw.cnt,Rw.kids,aP]
theorem cJ.kids {H:Hp}:∀ {r:Rw},cJ H r->aX H r.kids
 |.when _ _ _ _ _ _,h=>aX.app h.2.2.2.2.2.1 h.2.2.2.2.2.2
 |.times _ _ _ _,h=>h.2.2
 |.thr _ _ _ _ _,_=>trivial
 |.lt _ _ _,_=>trivial
 |.tell _ _,_=>trivial
abbrev Stp:=Str×Rw×Nat
mutual
def dE (k:Nat):Rw->List Stp
 |.when p pa pb t a b=>(("row": Str),Rw.when p pa pb t a b,k) :: (cR (k+1) a++[(("else": Str),Rw.when p pa pb t a b,k)]++cR (k+1+aP a) b++[(("end": Str),Rw.when p pa pb t a b,k)])
 |.times p pb n b=>(("row": Str),Rw.times p pb n b,k) :: (cR (k+1) b++[(("end": Str),Rw.times p pb n b,k)])
 |.thr p w x vs am=>[(("row": Str),.thr p w x vs am,k)]
 |.lt p x t=>[(("row": Str),.lt p x t,k)]
 |.tell p t=>[(("row": Str),.tell p t,k)]
def cR (k:Nat):List Rw->List Stp
 |[]=>[]
 |r :: rs=>dE k r++cR (k+r.cnt) rs
end
theorem yK:¬ (("else": Str)="row"):=by decide +kernel
theorem nW:¬ (("end": Str)="row"):=by decide +kernel
mutual
theorem aG5:∀ (r:Rw) (k:Nat),(dE k r).length<=3 * r.cnt
 |.when _ _ _ _ a b,k=>by have:=fA a (k+1);have:=fA b (k+1+aP a);simp only [dE,Rw.cnt,List.length_cons,List.length_append,List.length_nil];lia
 |.times _ _ _ b,k=>by have:=fA b (k+1);simp only [dE,Rw.cnt,List.length_cons,List.length_append,List.length_nil];lia
 |.thr _ _ _ _ _,_=>by simp only [dE,Rw.cnt,List.length_cons,List.length_nil];(exact oqJ)
 |.lt _ _ _,_=>by simp only [dE,Rw.cnt,List.length_cons,List.length_nil];(exact oqJ)
 |.tell _ _,_=>by simp only [dE,Rw.cnt,List.length_cons,List.length_nil];(exact oqJ)
theorem fA:∀ (rs:List Rw) (k:Nat),(cR k rs).length<=3 * aP rs
 |[],_=>ai _
 |r :: rs,k=>by have:=aG5 r k;have:=fA rs (k+r.cnt);simp only [cR,aP,List.length_append];lia
end
abbrev Ft:=Int×Int
mutual
def kU:Rw->Int
 |.thr _ _ _ _ _=>0
 |.lt _ _ _=>0
 |.tell _ _=>1
 |.when _ _ _ _ a _=>cW a
 |.times _ _ n b=>n * cW b
def cW:List Rw->Int
 |[]=>0
 |r :: rs=>kU r+cW rs
end
mutual
def lk (kn:List Str):Rw->List Str
 |.thr _ _ x _ _=>kn++[x]
 |.lt _ x _=>kn++[x]
 |.tell _ _=>kn
 |.when _ _ _ _ a b=>(fX kn b).filter fun x=>decide (x∈fX kn a)
 |.times _ _ _ b=>fX kn b
def fX (kn:List Str):List Rw->List Str
 |[]=>kn
 |r :: rs=>fX (lk kn r) rs
end
def mQ (k:Nat) (kn ns:List Str):List Ft:=if ∀ y∈ns,y∈kn then [] else [((k:Int),1)]
def oU (k:Nat) (am:Bool):List Ft:=if am then [((k:Int),0)] else []
def tls (k:Nat) (a b:List Rw):List Ft:=if cW a=cW b then [] else [((k:Int),2)]
mutual
def lf (k:Nat) (kn:List Str):Rw->List Ft
 |.thr _ _ _ _ am=>oU k am
 |.lt _ _ t=>mQ k kn t.names
 |.tell _ t=>mQ k kn t.names
 |.when _ _ _ t a b=>mQ k kn t.names++(tls k a b++(iW (k+1) kn a++iW (k+1+aP a) kn b))
 |.times _ _ _ b=>iW (k+1) kn b
def iW (k:Nat) (kn:List Str):List Rw->List Ft
 |[]=>[]
 |r :: rs=>lf k kn r++iW (k+r.cnt) (lk kn r) rs
end
mutual
def rf (k:Nat):Rw->List Ft
 |.thr _ _ _ _ am=>oU k am
 |.lt _ _ _=>[]
 |.tell _ _=>[]
 |.when _ _ _ _ a b=>wL (k+1) a++wL (k+1+aP a) b
 |.times _ _ _ b=>wL (k+1) b
def wL (k:Nat):List Rw->List Ft
 |[]=>[]
 |r :: rs=>rf k r++wL (k+r.cnt) rs
end
mutual
def uf (k:Nat) (kn:List Str):Rw->List Ft
 |.thr _ _ _ _ _=>[]
 |.lt _ _ t=>mQ k kn t.names
 |.tell _ t=>mQ k kn t.names
 |.when _ _ _ t a b=>mQ k kn t.names++(uY (k+1) kn a++uY (k+1+aP a) kn b)
 |.times _ _ _ b=>uY (k+1) kn b
def uY (k:Nat) (kn:List Str):List Rw->List Ft
 |[]=>[]
 |r :: rs=>uf k kn r++uY (k+r.cnt) (lk kn r) rs
end
mutual
def tf (k:Nat):Rw->List Ft
 |.thr _ _ _ _ _=>[]
 |.lt _ _ _=>[]
 |.tell _ _=>[]
 |.when _ _ _ _ a b=>uZ (k+1) a++(uZ (k+1+aP a) b++tls k a b)
 |.times _ _ _ b=>uZ (k+1) b
def uZ (k:Nat):List Rw->List Ft
 |[]=>[]
 |r :: rs=>tf k r++uZ (k+r.cnt) rs
end
mutual
theorem bK1:∀ (r:Rw) (k:Nat) (kn:List Str) (m:Ft),(lf k kn r).count m=(rf k r).count m+(uf k kn r).count m+(tf k r).count m
 |.thr _ _ _ _ am,k,kn,m=>by simp only [lf,rf,uf,tf,List.count_nil];lia
 |.lt _ _ t,k,kn,m=>by simp only [lf,rf,uf,tf,List.count_nil];lia
 |.tell _ t,k,kn,m=>by simp only [lf,rf,uf,tf,List.count_nil];lia
 |.when _ _ _ t a b,k,kn,m=>by
  have h1:=nH a (k+1) kn m;have h2:=nH b (k+1+aP a) kn m;simp only [lf,rf,uf,tf,List.count_append]
  lia
 |.times _ _ _ b,k,kn,m=>by
  simp only [lf,rf,uf,tf];exact nH b (k+1) kn m
theorem nH:∀ (rs:List Rw) (k:Nat) (kn:List Str) (m:Ft),(iW k kn rs).count m=(wL k rs).count m+(uY k kn rs).count m+(uZ k rs).count m
 |[],k,kn,m=>by simp only [iW,wL,uY,uZ,List.count_nil]
 |r :: rs,k,kn,m=>by
  have h1:=bK1 r k kn m;have h2:=nH rs (k+r.cnt) (lk kn r) m;simp only [iW,wL,uY,uZ,List.count_append]
  lia
end
theorem iQ (rs:List Rw):(iW 0 [] rs).Perm (wL 0 rs++uY 0 [] rs++uZ 0 rs):=by
 rw [List.perm_iff_count];intro m;rw [nH,xt,xt]
theorem jG {k:Nat}{kn ns:List Str}{m:Ft}(h:m∈mQ k kn ns):m=((k:Int),1):=by
 unfold mQ at h
 split at h
 ·cases h
 ·exact dq.mp h
theorem aA6 {k:Nat}{am:Bool}{m:Ft}(h:m∈oU k am):m=((k:Int),0):=by
 unfold oU at h
 split at h
 ·exact dq.mp h
 ·cases h
theorem oZ {k:Nat}{a b:List Rw}{m:Ft}(h:m∈tls k a b):m=((k:Int),2):=by
 unfold tls at h
 split at h
 ·cases h
 ·exact dq.mp h
mutual
theorem aX5:∀ (r:Rw) (k:Nat) (kn:List Str) (m:Ft),m∈lf k kn r->(k:Int)<=m.1/\m.1 < ((k+r.cnt:Nat):Int)
 |.thr _ _ _ _ am,k,kn,m,h=>by rw [aA6 (show m∈oU k am by simpa only [lf] using h)];simp only [Rw.cnt];lia
 |.lt _ _ t,k,kn,m,h=>by rw [jG (show m∈mQ k kn t.names by simpa only [lf] using h)];simp only [Rw.cnt];lia
 |.tell _ t,k,kn,m,h=>by rw [jG (show m∈mQ k kn t.names by simpa only [lf] using h)];simp only [Rw.cnt];lia
 |.when _ _ _ t a b,k,kn,m,h=>by
  simp only [lf,List.mem_append] at h;simp only [Rw.cnt];rcases h with h | h | h | h
  ·rw [jG h];simp only;lia
  ·rw [oZ h];simp only;lia
  ·have:=jQ a _ _ _ h;lia
  ·have:=jQ b _ _ _ h;lia
 |.times _ _ _ b,k,kn,m,h=>by
  simp only [lf] at h;have:=jQ b _ _ _ h;simp only [Rw.cnt];lia
theorem jQ:∀ (rs:List Rw) (k:Nat) (kn:List Str) (m:Ft),m∈iW k kn rs->(k:Int)<=m.1/\m.1 < ((k+aP rs:Nat):Int)
 |[],k,kn,m,h=>by simp only [iW] at h;cases h
 |r :: rs,k,kn,m,h=>by
  simp only [iW,List.mem_append] at h;simp only [aP];rcases h with h | h
  ·have:=aX5 r _ _ _ h;lia
  ·have:=jQ rs _ _ _ h;lia
end
def zK (l:List Ft):Prop:=l.Pairwise fun a b=>lG a b=true
theorem uC {l m:List Ft}(h:zK l) (k:zK m) (x:∀ a∈l,∀ b∈m,a.1 < b.1):zK (l++m) :=
 vm.mpr ⟨h,k,fun a ha b hb=>by unfold lG;simp [x a ha b hb]⟩
theorem uE (k:Nat) (kn ns:List Str):zK (mQ k kn ns):=by
 unfold mQ zK
 split <;> simp
theorem aR4 (k:Nat) (am:Bool):zK (oU k am):=by
 unfold oU zK
 split <;> simp
theorem aU9 (k:Nat) (a b:List Rw):zK (tls k a b):=by
 unfold tls zK
 split <;> simp
mutual
theorem bJ2:∀ (r:Rw) (k:Nat) (kn:List Str),zK (lf k kn r)
 |.thr _ _ _ _ am,k,kn=>by simp only [lf];exact aR4 k am
 |.lt _ _ t,k,kn=>by simp only [lf];exact uE k kn _
 |.tell _ t,k,kn=>by simp only [lf];exact uE k kn _
 |.when _ _ _ t a b,k,kn=>by
  have h1:=lM a (k+1) kn;have h2:=lM b (k+1+aP a) kn;have h3:zK (iW (k+1) kn a++iW (k+1+aP a) kn b):=uC h1 h2 fun x hx y hy=>by
   have:=jQ a _ _ _ hx;have:=jQ b _ _ _ hy
   lia
  have h4:∀ y∈iW (k+1) kn a++iW (k+1+aP a) kn b,(k:Int) < y.1:=fun y hy=>by
   rcases du.mp hy with h | h
   ·have:=jQ a _ _ _ h;lia
   ·have:=jQ b _ _ _ h;lia
  simp only [lf];refine vm.mpr ⟨uE k kn _,uC (aU9 k a b) h3 fun x hx y hy=>by rw [oZ hx];exact h4 y hy,fun x hx y hy=>?_⟩;rw [jG hx];rcases du.mp hy with h | h
  ·rw [oZ h];unfold lG;simp
  ·have:=h4 y h;unfold lG;simp [this]
 |.times _ _ _ b,k,kn=>by simp only [lf];exact lM b (k+1) kn
theorem lM:∀ (rs:List Rw) (k:Nat) (kn:List Str),zK (iW k kn rs)
 |[],k,kn=>by simp only [iW];exact xm
 |r :: rs,k,kn=>by
  simp only [iW];exact uC (bJ2 r k kn) (lM rs _ _) fun x hx y hy=>by
   have:=aX5 r _ _ _ hx;have:=jQ rs _ _ _ hy
   lia
end
theorem aR3 (a:Ft):lG a a=false:=by unfold lG;simp
theorem aD2 {l:List Ft}(h:zK l):l.Nodup:=List.Pairwise.imp (fun {a b} z e=>by rw [e,aR3] at z;cases z) h
theorem tX (rs:List Rw):(wL 0 rs++uY 0 [] rs++uZ 0 rs).Nodup:=(iQ rs).nodup_iff.mp (aD2 (lM rs 0 []))
theorem aF8 {l:List Ft}{x m:Ft}{r:List Ft}(h:zK l) (e:l=x :: r) (hm:m∈l) (le:∀ m'∈l,m'≠m->lG m m'=true):m=x:=by
 subst e;rcases cq.mp hm with z | z
 ·exact z
 ·have h1:lG x m=true:=(List.pairwise_cons.mp h).1 m z
  by_cases c:x=m
  ·exact c.symm
  ·have h2:=le x bh c;rw [zM c,h2] at h1
   cases h1
theorem wE {rs:List Rw}{m:Ft}(hm:m∈wL 0 rs++uY 0 [] rs++uZ 0 rs) (le:∀ m'∈wL 0 rs++uY 0 [] rs++uZ 0 rs,m'≠m->lG m m'=true):∃ r,iW 0 [] rs=m :: r:=by
 have p:=iQ rs
 cases e:iW 0 [] rs with
 |nil=>rw [e] at p;rw [List.nil_perm.mp p] at hm;cases hm
 |cons x r =>
  have:m=x:=aF8 (lM rs 0 []) e (p.mem_iff.mpr hm) fun m' h=>le m' (p.mem_iff.mp h)
  exact ⟨r,by rw [this]⟩
theorem aB4 (rs:List Rw):wL 0 rs++uY 0 [] rs++uZ 0 rs=[]↔iW 0 [] rs=[]:=by
 have p:=iQ rs
 constructor
 ·intro h;rw [h] at p;exact List.perm_nil.mp p
 ·intro h;rw [h] at p;exact List.nil_perm.mp p
section
variable {α σ: Type}(f:α->σ->Option σ)
def fC:List α->σ->Option σ
 |[],st=>some st
 |a :: r,st=>(f a st).bind (fC r)
theorem eA:∀ (l l2:List α) (st:σ),fC f (l++l2) st=(fC f l st).bind (fC f l2)
 |[],_,_=>rfl
 |a :: r,l2,st=>by
  show (f a st).bind (fC f (r++l2))=((f a st).bind (fC f r)).bind (fC f l2)
  cases f a st with
  |none=>rfl
  |some s=>exact eA r l2 s
theorem zE {l:List α}{s0 e:σ}(h:fC f l s0=some e) {i:Nat}{a:α}(ha:l[i]?=some a) {st:σ}(hs:fC f (l.take i) s0=some st):∃ st',f a st=some st'/\fC f (l.take (i+1)) s0=some st':=by
 obtain ⟨hi,rfl⟩:=az.mp ha;have e1:l=l.take i++(l[i] :: l.drop (i+1)):=by rw [ui,vd]
 rw [e1,eA,hs] at h;have h:(f l[i] st).bind (fC f (l.drop (i+1)))=some e:=h
 cases q:f l[i] st with
 |none=>rw [q] at h;cases h
 |some st' =>
  refine ⟨st',rfl,?_⟩;rw [qj,de hi,eA,hs];show (f l[i] st).bind (fC f [])=_;rw [q];rfl
end
def Rw.sets:Rw->Option Str
 |.thr _ _ x _ _=>some x
 |.lt _ x _=>some x
 |.tell _ _=>none
 |.when _ _ _ _ _ _=>none
 |.times _ _ _ _=>none
def Rw.asked:Rw->List Str
 |.thr _ _ _ _ _=>[]
 |.lt _ _ t=>t.names
 |.tell _ t=>t.names
 |.when _ _ _ t _ _=>t.names
 |.times _ _ _ _=>[]
def jS:Rw->Bool
 |.when _ _ _ _ _ _=>true
 |.thr _ _ _ _ _=>false
 |.lt _ _ _=>false
 |.tell _ _=>false
 |.times _ _ _ _=>false
abbrev USt:=List Ft×List Str×List (List Str)
def zG (st:USt):Option USt:=match st.2.2 with
 |a :: r=>some (st.1,a,st.2.1 :: r)
 |[]=>none
def aG3 (st:USt):Option USt:=match st.2.2 with
 |a :: r=>some (st.1,st.2.1.filter (fun x=>decide (x∈a)),r)
 |[]=>none
def rJ (r:Rw) (k:Nat) (st:USt):USt:=(st.1++mQ k st.2.1 r.asked,st.2.1++r.sets.toList,if jS r then (st.2.1++r.sets.toList) :: st.2.2 else st.2.2)
def iC (s:Stp) (st:USt):Option USt :=
 if s.1="row" then some (rJ s.2.1 s.2.2 st)
 else if s.1="else" then zG st
 else if jS s.2.1 then aG3 st else some st
theorem aG7:¬ (("end": Str)="else"):=by decide +kernel
theorem xB {r:Rw}{k:Nat}{st:USt}:iC (("row": Str),r,k) st=some (rJ r k st):=by unfold iC;rw [bc rfl]
theorem bB0 {r:Rw}{k:Nat}{st:USt}:iC (("else": Str),r,k) st=zG st:=by unfold iC;rw [ar yK,bc rfl]
theorem aX6 {r:Rw}{k:Nat}{st:USt}:iC (("end": Str),r,k) st=if jS r then aG3 st else some st:=by unfold iC;rw [ar nW,ar aG7]
theorem mP {α σ: Type}{f:α->σ->Option σ}{a:α}{l:List α}{st st':σ}(h:f a st=some st'):fC f (a :: l) st=fC f l st':=by
 show (f a st).bind _=_;rw [h];rfl
theorem aA2 (k:Nat) (kn:List Str):mQ k kn []=[]:=by unfold mQ;rw [bc (fun y hy=>absurd hy dj)]
mutual
theorem bN1:∀ (r:Rw) (k:Nat) (F:List Ft) (kn:List Str) (kept:List (List Str)),fC iC (dE k r) (F,kn,kept)=some (F++uf k kn r,lk kn r,kept)
 |.thr p w x vs am,k,F,kn,kept=>by
  simp only [dE];rw [mP xB];simp only [fC,rJ,Rw.asked,Rw.sets,jS,uf,lk,aA2,Option.toList];rfl
 |.lt p x t,k,F,kn,kept=>by
  simp only [dE];rw [mP xB];simp only [fC,rJ,Rw.asked,Rw.sets,jS,uf,lk,Option.toList];rfl
 |.tell p t,k,F,kn,kept=>by
  simp only [dE];rw [mP xB];simp only [fC,rJ,Rw.asked,Rw.sets,jS,uf,lk,Option.toList,List.append_nil];rfl
 |.when p pa pb t a b,k,F,kn,kept=>by
  simp only [dE];rw [mP xB];simp only [rJ,Rw.asked,Rw.sets,jS,Option.toList,List.append_nil,if_true];rw [eA,eA,eA,qC a];simp only [Option.bind_some];rw [mP (st':=(F++mQ k kn t.names++uY (k+1) kn a,kn,fX kn a :: kept)) bB0];simp only [fC,Option.bind_some];rw [qC b];simp only [Option.bind_some];rw [aX6,bc (by rfl)];simp only [uf,lk,aG3,Option.bind_some,List.append_assoc]
 |.times p pb n b,k,F,kn,kept=>by
  simp only [dE];rw [mP xB];simp only [rJ,Rw.asked,Rw.sets,jS,Option.toList,List.append_nil,aA2];rw [eA];simp only [Bool.false_eq_true,if_false];rw [qC b];simp only [Option.bind_some];rw [mP (aX6.trans (ar (by simp only [jS];exact bi)))];simp only [fC,uf,lk]
theorem qC:∀ (rs:List Rw) (k:Nat) (F:List Ft) (kn:List Str) (kept:List (List Str)),fC iC (cR k rs) (F,kn,kept)=some (F++uY k kn rs,fX kn rs,kept)
 |[],k,F,kn,kept=>by simp only [cR,fC,uY,fX,List.append_nil]
 |r :: rs,k,F,kn,kept=>by
  simp only [cR];rw [eA,bN1 r];simp only [Option.bind_some];rw [qC rs];simp only [uY,fX,List.append_assoc]
end
abbrev TSt:=List Ft×List Int
def yB (s w:Str):Bool:=decide (s="else") || (decide (s="row") && decide (w∈(["when","times"]:List Str)))
def tI (s:Stp):Bool:=yB s.1 s.2.1.w
theorem bY8:yB "row" "tell"=false:=by decide +kernel
theorem bY5:yB "row" "let"=false:=by decide +kernel
theorem bW4:yB "row" "when"=true:=by decide +kernel
theorem bX6:yB "row" "times"=true:=by decide +kernel
theorem bY0 (w:Str):yB "else" w=true:=by
 unfold yB;rw [af rfl];rfl
theorem bW0 (w:Str):yB "end" w=false:=by
 unfold yB;rw [au aG7,au nW];rfl
theorem bV7 {w:Str}(h:w∈dF):yB "row" w=false:=by
 simp only [dF,List.mem_cons,List.not_mem_nil,or_false] at h;rcases h with rfl | rfl | rfl | rfl <;> decide +kernel
def vO (r:Rw) (k:Nat) (st:TSt):Option TSt:=match r with
 |.times _ _ n _=>match st.2 with
  |i :: c :: cs=>some (st.1,(c+n * i) :: cs)
  |[_]=>none
  |[]=>none
 |.when _ _ _ _ _ _=>match st.2 with
  |o :: i :: c :: cs=>some (st.1++(if i=o then [] else [((k:Int),2)]),(c+i) :: cs)
  |[_,_]=>none
  |[_]=>none
  |[]=>none
 |.thr _ _ _ _ _=>none
 |.lt _ _ _=>none
 |.tell _ _=>none
def qL:Rw->Bool
 |.tell _ _=>true
 |.thr _ _ _ _ _=>false
 |.lt _ _ _=>false
 |.when _ _ _ _ _ _=>false
 |.times _ _ _ _=>false
def aQ1 (st:TSt):Option TSt:=match st.2 with
 |c :: cs=>some (st.1,(c+1) :: cs)
 |[]=>none
def gM (s:Stp) (st:TSt):Option TSt :=
 if tI s then some (st.1,0 :: st.2)
 else if qL s.2.1 then aQ1 st
 else if s.1="end" then vO s.2.1 s.2.2 st else some st
mutual
def WdR:Rw->Prop
 |.thr _ w _ _ _=>w∈dF
 |.lt _ _ _=>True
 |.tell _ _=>True
 |.when _ _ _ _ a b=>WdL a/\WdL b
 |.times _ _ _ b=>WdL b
def WdL:List Rw->Prop
 |[]=>True
 |r :: rs=>WdR r/\WdL rs
end
theorem xK {s:Str}{r:Rw}{k:Nat}{st:TSt}(h:yB s r.w=true):gM (s,r,k) st=some (st.1,0 :: st.2):=by unfold gM;rw [bc (show tI (s,r,k)=true from h)]
theorem bD5 {p:Addr}{t:Tm}{k:Nat}{st:TSt}:gM (("row": Str),Rw.tell p t,k) st=aQ1 st:=by
 unfold gM;rw [ar (by show ¬ yB "row" "tell"=true;rw [bY8];exact bi)];rfl
theorem aW8 {r:Rw}{k:Nat}{st:TSt}(h:qL r=false):gM (("end": Str),r,k) st=vO r k st:=by
 unfold gM;have:tI (("end": Str),r,k)=false:=bW0 _;rw [ar (by rw [this];exact bi),ar (by show ¬ qL r=true;rw [h];exact bi),bc rfl]
theorem bI0:¬ (("row": Str)="end"):=by decide +kernel
theorem aK5 {r:Rw}{k:Nat}{st:TSt}(h1:yB "row" r.w=false) (h2:qL r=false):gM (("row": Str),r,k) st=some st:=by
 unfold gM;rw [ar (by show ¬ yB "row" r.w=true;rw [h1];exact bi),ar (by show ¬ qL r=true;rw [h2];exact bi),ar bI0]
mutual
theorem bS7:∀ (r:Rw) (k:Nat) (F:List Ft) (c:Int) (cs:List Int),WdR r->fC gM (dE k r) (F,c :: cs)=some (F++tf k r,(c+kU r) :: cs)
 |.thr p w x vs am,k,F,c,cs,h=>by
  have h:w∈dF:=by simpa only [WdR] using h
  simp only [dE];rw [mP (aK5 (r:=Rw.thr p w x vs am) (bV7 h) rfl)];simp only [fC,tf,kU,List.append_nil,Int.add_zero]
 |.lt p x t,k,F,c,cs,h=>by
  simp only [dE];rw [mP (aK5 (r:=Rw.lt p x t) bY5 rfl)];simp only [fC,tf,kU,List.append_nil,Int.add_zero]
 |.tell p t,k,F,c,cs,h=>by
  simp only [dE];rw [mP (st':=(F,(c+1) :: cs)) bD5];simp only [fC,tf,kU,List.append_nil]
 |.when p pa pb t a b,k,F,c,cs,h=>by
  simp only [WdR] at h;simp only [dE];rw [mP (xK (r:=Rw.when p pa pb t a b) bW4),eA,eA,eA,rE a _ _ _ _ h.1];simp only [Option.bind_some];rw [mP (xK (r:=Rw.when p pa pb t a b) (bY0 _))];simp only [fC,Option.bind_some];rw [rE b _ _ _ _ h.2];simp only [Option.bind_some];rw [aW8 (by rfl)];simp only [vO,Option.bind_some,tf,kU,tls,Int.zero_add,List.append_assoc]
 |.times p pb n b,k,F,c,cs,h=>by
  simp only [WdR] at h;simp only [dE];rw [mP (xK (r:=Rw.times p pb n b) bX6),eA,rE b _ _ _ _ h];simp only [Option.bind_some];rw [mP ((aW8 rfl).trans (show vO (Rw.times p pb n b) k _=some (F++uZ (k+1) b,(c+n * cW b) :: cs) by simp only [vO,Int.zero_add]))];simp only [fC,tf,kU]
theorem rE:∀ (rs:List Rw) (k:Nat) (F:List Ft) (c:Int) (cs:List Int),WdL rs->fC gM (cR k rs) (F,c :: cs)=some (F++uZ k rs,(c+cW rs) :: cs)
 |[],k,F,c,cs,h=>by simp only [cR,fC,uZ,cW,List.append_nil,Int.add_zero]
 |r :: rs,k,F,c,cs,h=>by
  simp only [WdL] at h;simp only [cR];rw [eA,bS7 r _ _ _ _ h.1];simp only [Option.bind_some];rw [rE rs _ _ _ _ h.2];simp only [uZ,cW,List.append_assoc,Int.add_assoc]
end
theorem lL {H H2:Hp}{d l a:Addr}(D2:cS H2 d l) (o:dZ d l H H2) (h:H2 a=none):H a=none:=by
 cases q:H a with
 |none=>rfl
 |some u =>
  exfalso;obtain ⟨sd,n,ls,z⟩:=D2
  by_cases h1:a=d
  ·rw [h1,z.dc] at h;cases h
  ·by_cases h2:a=l
   ·rw [h2,z.lc] at h;cases h
   ·rw [o a u q h1 h2] at h;cases h
theorem bZ {H:Hp}{d l r:Addr}(D:cS H d l) (h:H r=none):r≠d/\r≠l:=by
 obtain ⟨sd,n,ls,z⟩:=D;exact ⟨(aK z.dc h).symm,(aK z.lc h).symm⟩
theorem pX {H:Hp}{d l p:Addr}{xs ys:List V}(D:cS H d l) (h:H p=some (.lst xs)) (n:p≠l):cS (aJ H p (.lst ys)) d l:=by
 obtain ⟨sd,k,ls,z⟩:=D;exact ⟨sd,k,ls,⟨by rw [aH (jE z.dc h (by intro z;cases z))];exact z.dc,by rw [aH n.symm];exact z.lc,z.s0,z.s1,z.n0,z.l0⟩⟩
theorem aV {H H':Hp}{d l p:Addr}{xs:List V}(D:cS H d l) (h:H p=some (.lst xs)) (n:p≠l) (o:dZ d l H H'):H' p=some (.lst xs):=by
 obtain ⟨sd,k,ls,z⟩:=D;exact o _ _ h (jE h z.dc (by intro z;cases z)) n
theorem uN {H H2:Hp}{d l lf:Addr}{o:HO}(h:dZ d l H H2) (hf:H lf=none):dZ d l H (aJ H2 lf o):=fun b u e h1 h2=>by
 rw [aH (aK e hf)];exact h b u e h1 h2
def hJ (S:List Addr) (H H':Hp):Prop:=∀ b o,H b=some o->b∉S->H' b=some o
theorem hJ.trans {S:List Addr}{H H1 H2:Hp}(a:hJ S H H1) (b:hJ S H1 H2):hJ S H H2:=fun c o e h=>b c o (a c o e h) h
theorem hJ.of {S:List Addr}{H H':Hp}(s:bB H H'):hJ S H H':=fun c o e _=>s c o e
theorem hJ.out {d l sc:Addr}{H H':Hp}(o:dZ d l H H'):hJ [d,l,sc] H H':=fun b u e n=>o b u e (fun z=>n (by rw [z];exact bh)) (fun z=>n (by rw [z];exact ay _ bh))
theorem hJ.new {S:List Addr}{H H1:Hp}{p:Addr}{o:HO}(a:hJ S H H1) (h:H p=none):hJ S H (aJ H1 p o):=fun b u e n=>by
 rw [aH (aK e h)];exact a b u e n
theorem hJ.fresh {S:List Addr}{H H1:Hp}{p:Addr}(a:hJ S H H1) (hS:∀ b∈S,∃ o,H1 b=some o) (h:H1 p=none):H p=none:=by
 cases q:H p with
 |none=>rfl
 |some u =>
  exfalso
  by_cases m:p∈S
  ·obtain ⟨o,e⟩:=hS p m;rw [e] at h;cases h
  ·rw [a p u q m] at h;cases h
def dX (many:Int) (nl:Addr) (left:Int):List (Key×V):=[(.inr "many",.int many),(.inr "names",.ref nl),(.inr "left",.int left)]
theorem kmn:¬ ((Sum.inr ("many": Str):Key)=Sum.inr ("names": Str)):=by decide +kernel
theorem kml:¬ ((Sum.inr ("many": Str):Key)=Sum.inr ("left": Str)):=by decide +kernel
theorem knL:¬ ((Sum.inr ("names": Str):Key)=Sum.inr ("left": Str)):=by decide +kernel
theorem aS7 (m:Int) (nl:Addr) (v:Int):fG (dX m nl v) (Sum.inr "many": Key)=some (.int m):=by unfold dX;rw [cZ rfl]
theorem aL7 (m:Int) (nl:Addr) (v:Int):fG (dX m nl v) (Sum.inr "names": Key)=some (.ref nl):=by unfold dX;rw [cC kmn,cZ rfl]
theorem aV8 (m:Int) (nl:Addr) (v:Int):fG (dX m nl v) (Sum.inr "left": Key)=some (.int v):=by unfold dX;rw [cC kml,cC knL,cZ rfl]
theorem aI7 (m:Int) (nl:Addr) (v u:Int):fH (dX m nl v) (Sum.inr "left": Key) (.int u)=dX m nl u:=by
 unfold fH dX;simp;exact ⟨fun z=>absurd (dg Sum.inr z) kml,fun z=>absurd (dg Sum.inr z) knL⟩
structure Wd (H:Hp) (d l sc nl:Addr) (many:Int) (xs:List Str):Prop where
 deal:cS H d l
 scn:∃ left,H sc=some (.dK (dX many nl left))
 nms:H nl=some (.lst (xs.map V.str))
 ne1:sc≠d
 ne2:nl≠l
 x1:1<=xs.length
 x2:xs.length<=9
 m1:0<=many
 m2:many<=3
section
variable {H H':Hp}{d l sc nl:Addr}{many:Int}{xs:List Str}
theorem Wd.sl (W:Wd H d l sc nl many xs):sc≠l:=by
 obtain ⟨left,e⟩:=W.scn;obtain ⟨sd,k,ls,z⟩:=W.deal;exact jE e z.lc (by intro z;cases z)
theorem Wd.out (W:Wd H d l sc nl many xs) (D:cS H' d l) (o:dZ d l H H'):Wd H' d l sc nl many xs :=
 ⟨D,let ⟨left,e⟩:=W.scn;⟨left,o _ _ e W.ne1 W.sl⟩,aV W.deal W.nms W.ne2 o,W.ne1,W.ne2,W.x1,W.x2,W.m1,W.m2⟩
theorem Wd.same (W:Wd H d l sc nl many xs) (s:bB H H'):Wd H' d l sc nl many xs :=
 ⟨W.deal.same s,let ⟨left,e⟩:=W.scn;⟨left,s _ _ e⟩,s _ _ W.nms,W.ne1,W.ne2,W.x1,W.x2,W.m1,W.m2⟩
theorem Wd.put (W:Wd H d l sc nl many xs) (v:Int):Wd (aJ H sc (.dK (dX many nl v))) d l sc nl many xs:=by
 obtain ⟨left,e⟩:=W.scn;obtain ⟨sd,k,ls,z⟩:=id W.deal;have n1:=W.ne1;have n2:=W.sl;refine ⟨⟨sd,k,ls,⟨by rw [aH n1.symm];exact z.dc,by rw [aH n2.symm];exact z.lc,z.s0,z.s1,z.n0,z.l0⟩⟩,⟨v,aC⟩,?_,n1,W.ne2,W.x1,W.x2,W.m1,W.m2⟩;rw [aH (jE W.nms e (by intro z;cases z))];exact W.nms
theorem Wd.dput (W:Wd H d l sc nl many xs) (v:Int):oV H sc (.str "left") (.int v) (aJ H sc (.dK (dX many nl v))):=by
 obtain ⟨left,e⟩:=W.scn;rw [<- aI7 many nl left v];exact oV.k (k:=Sum.inr "left") e (bL (by show 3<=1000;decide))
theorem Wd.left (W:Wd H d l sc nl many xs):∃ v,iS H sc (.str "left") (some (.int v)):=by
 obtain ⟨left,e⟩:=W.scn;refine ⟨left,?_⟩;rw [<- aV8 many nl left];exact iS.k (k:=Sum.inr "left") e
theorem Wd.names (W:Wd H d l sc nl many xs):iS H sc (.str "names") (some (.ref nl)):=by
 obtain ⟨left,e⟩:=W.scn;rw [<- aL7 many nl left];exact iS.k (k:=Sum.inr "names") e
theorem Wd.getMany (W:Wd H d l sc nl many xs):iS H sc (.str "many") (some (.int many)):=by
 obtain ⟨left,e⟩:=W.scn;rw [<- aS7 many nl left];exact iS.k (k:=Sum.inr "many") e
theorem Wd.off (W:Wd H d l sc nl many xs) (v:Int):hJ [d,l,sc] H (aJ H sc (.dK (dX many nl v))):=fun b u e n=>by
 rw [aH fun z=>n (by rw [z];simp)];exact e
theorem Wd.ts (W:Wd H d l sc nl many xs) (o:hJ [d,l,sc] H H'):TS H H':=fun p ys h=>by
 obtain ⟨left,e⟩:=W.scn;obtain ⟨sd,k,ls,z⟩:=W.deal;refine o _ _ h fun m=>?_
 simp only [List.mem_cons,List.not_mem_nil,or_false] at m;rcases m with m | m | m
 ·rw [m,z.dc] at h;cases h
 ·rw [m,z.lc] at h;cases h
 ·rw [m,e] at h;cases h
theorem Wd.keep (W:Wd H d l sc nl many xs) {p:Addr}{ys:List V}(h:H p=some (.lst ys)) (n:p≠l) (o:hJ [d,l,sc] H H'):H' p=some (.lst ys):=by
 obtain ⟨left,e⟩:=W.scn;obtain ⟨sd,k,ls,z⟩:=W.deal;refine o _ _ h fun m=>?_
 simp only [List.mem_cons,List.not_mem_nil,or_false] at m;rcases m with m | m | m
 ·rw [m,z.dc] at h;cases h
 ·exact n m
 ·rw [m,e] at h;cases h
theorem Wd.lst (W:Wd H d l sc nl many xs) {p:Addr}{ys zs:List V}(h:H p=some (.lst ys)) (n:p≠l) (n2:p≠nl):Wd (aJ H p (.lst zs)) d l sc nl many xs:=by
 obtain ⟨left,e⟩:=W.scn;exact ⟨pX W.deal h n,⟨left,by rw [aH (jE e h (by intro z;cases z))];exact e⟩,by rw [aH n2.symm];exact W.nms,W.ne1,W.ne2,W.x1,W.x2,W.m1,W.m2⟩
theorem Wd.all (W:Wd H d l sc nl many xs):∀ b∈[d,l,sc],∃ o,H b=some o:=by
 obtain ⟨left,e⟩:=W.scn;obtain ⟨sd,k,ls,z⟩:=W.deal;intro b m;simp only [List.mem_cons,List.not_mem_nil,or_false] at m;rcases m with m | m | m
 ·exact ⟨_,by rw [m];exact z.dc⟩
 ·exact ⟨_,by rw [m];exact z.lc⟩
 ·exact ⟨_,by rw [m];exact e⟩
end
mutual
def ScR (ks:List Str):Rw->List Str->Prop
 |.thr _ _ x _ am,k2=>k2=ks++[x]/\am=false
 |.lt _ x t,k2=>k2=ks++[x]/\∀ y∈t.names,y∈ks
 |.tell _ t,k2=>k2=ks/\∀ y∈t.names,y∈ks
 |.when _ _ _ t a b,k2=>(∀ y∈t.names,y∈ks)/\∃ k3 k4,nO ks a k3/\nO ks b k4/\k2=k3.filter (fun x=>decide (x∈k4))
 |.times _ _ _ b,k2=>nO ks b k2
def nO (ks:List Str):List Rw->List Str->Prop
 |[],k2=>k2=ks
 |r :: rs,k2=>∃ k1,ScR ks r k1/\nO k1 rs k2
end
theorem nO.app {ks k1 k2:List Str}{r:Rw}:∀ {rs:List Rw}{ks:List Str},nO ks rs k1->ScR k1 r k2->nO ks (rs++[r]) k2
 |[],ks,h,h2=>by
  have h:k1=ks:=h;rw [h] at h2;exact ⟨k2,h2,rfl⟩
 |q :: rs,ks,⟨k3,h1,h2⟩,h3=>⟨k3,h1,nO.app (ks:=ks) h2 h3⟩
mutual
theorem ScR.len:∀ (r:Rw) {ks k2:List Str},ScR ks r k2->k2.length<=ks.length+r.cnt
 |.thr _ _ x _ am,ks,k2,h=>by rw [h.1];simp [Rw.cnt]
 |.lt _ x t,ks,k2,h=>by rw [h.1];simp [Rw.cnt]
 |.tell _ t,ks,k2,h=>by rw [h.1];simp [Rw.cnt]
 |.when _ _ _ t a b,ks,k2,⟨_,k3,k4,h1,h2,h3⟩=>by
  have:=nO.len a h1;have:=gp (fun x=>decide (x∈k4)) k3;rw [h3];simp only [Rw.cnt]
  lia
 |.times _ _ _ b,ks,k2,h=>by
  have:=nO.len b (show nO ks b k2 from h);simp only [Rw.cnt]
  lia
theorem nO.len : ∀ (rs : List Rw) {ks k2 : List Str}, nO ks rs k2 -> k2.length <= ks.length + aP rs
  | [], ks, k2, h => by have h : k2 = ks := h
                        rw [h]; simp [aP]
  | r :: rs, ks, k2, ⟨k1, h1, h2⟩ => by
    have := ScR.len r h1;have := nO.len rs h2;simp only [aP]
    lia
end
mutual
def wW:Rw->Prop
 |.thr _ _ _ _ _=>True
 |.lt _ _ _=>True
 |.tell _ _=>True
 |.when _ _ _ _ a b=>cW a=cW b/\eB a/\eB b
 |.times _ _ n b=>(0<=n/\n<=9/\0<=cW b/\cW b<=100)/\eB b
def eB:List Rw->Prop
 |[]=>True
 |r :: rs=>wW r/\eB rs
end
theorem iE:∀ (rs qs:List Rw),cW (rs++qs)=cW rs+cW qs
 |[],qs=>by simp [cW]
 |r :: rs,qs=>by simp only [List.cons_append,cW,iE rs qs];lia
theorem eB.app:∀ {rs qs:List Rw},eB rs->eB qs->eB (rs++qs)
 |[],_,_,h=>h
 |_ :: _,_,⟨h,k⟩,h2=>⟨h,eB.app k h2⟩
def tn:Nat->Nat
 |0=>2
 |1=>2
 |2=>4
 |_=>7
def cb:Nat->Nat
 |0=>6
 |1=>30
 |2=>248
 |_=>3483
def pb:Nat->Nat
 |0=>1
 |m+1=>1+2 * cb m
mutual
def Rw.dp:Rw->Nat
 |.when _ _ _ _ a b=>1+max (dI a) (dI b)
 |.times _ _ _ b=>1+dI b
 |.thr _ _ _ _ _=>0
 |.lt _ _ _=>0
 |.tell _ _=>0
def dI:List Rw->Nat
 |[]=>0
 |r :: rs=>max r.dp (dI rs)
end
theorem lK {m:Nat}{r:Rw}:∀ {rs:List Rw},dI rs<=m->r.dp<=m->dI (rs++[r])<=m
 |[],_,h=>by simp only [List.nil_append,dI];lia
 |q :: rs,h,h2=>by
  simp only [dI] at h;have:=lK (rs:=rs) (m:=m) (r:=r) (by lia) h2;simp only [List.cons_append,dI]
  lia
structure Blk (ks:List Str) (rs:List Rw) (k2:List Str) (tells:Int):Prop where
 sc:nO ks rs k2
 tl:cW rs=tells
 tk:eB rs
def bG (rs:List Rw):List V:=rs.map fun r=>V.ref r.p
def spNames:Sp:=fun vs H Q _=>∃ (d l:Addr) (m:Int),vs=[.ref d,.int m]/\cS H d l/\0<=m/\m<=9 /\
 ∀ (r:Addr) (xs:List Str) (H':Hp),cS H' d l->dZ d l H H'->H r=none->H' r=some (.lst (xs.map V.str))->(xs.length:Int)=m->xs.Nodup->Q (.ref r) H'
def spSumS:Sp:=fun vs H Q _=>∃ (d l:Addr) (m:Int),vs=[.ref d,.int m]/\cS H d l/\0<=m/\m<=3/\∀ (p:Addr) (ws:List V) (H':Hp),cS H' d l->dZ d l H H'->H' p=some (.tup ws)->ws.length<=3->Q (.ref p) H'
def spStp:Sp:=fun vs H Q _=>∃ (d l:Addr) (m:Int),vs=[.ref d,.int m]/\cS H d l /\
 ∀ (p:Addr) (a b:Int) (H':Hp),cS H' d l->dZ d l H H'->H' p=some (.tup [.int a,.int b])->0<=a->a<=100->(m≠1->2 * a<=b)->Q (.ref p) H'
def spThrow:Sp:=fun vs H Q _=>∃ (d l:Addr) (m:Int) (x:Str),vs=[.ref d,.int m,.str x]/\cS H d l/\0<=m/\m<=3 /\
 ∀ (p:Addr) (w:Str) (ws:List V) (H':Hp),cS H' d l->dZ d l H H'->H' p=some (.tup (.str w :: .str x :: ws))->kG H' w ws false->Q (.ref p) H'
def bT7 (n:Nat):Sp:=fun vs H Q _=>∃ (d l kn:Addr) (ks:List Str) (room deep:Int),vs=[.ref d,.ref kn,.int room,.int deep]/\cS H d l/\H kn=some (.lst (ks.map V.str))/\kn≠l/\ks.length<=10000/\1<=room/\room<=64/\deep<=n /\
 ∀ (t:Tm) (H':Hp),cS H' d l->dZ d l H H'->jT H' t->t.ok->(∀ x∈t.names,x∈ks)->(t.size:Int)<=room->t.deep<=n->Q (.ref t.p) H'
def aE3:Nat->Sp
 |0=>fun _ _ _ _=>False
 |n+1=>bT7 (n+1)
def bW5 (ks:List Str) (x:Str) (r:Rw):Prop:=(∃ p w vs,r= .thr p w x vs false)\/∃ p t,r= .lt p x t/\∀ y∈t.names,y∈ks
def spSet:Sp:=fun vs H Q _=>∃ (d l sc nl kn:Addr) (many:Int) (xs ks:List Str) (x:Str),vs=[.ref d,.ref sc,.ref kn,.str x]/\Wd H d l sc nl many xs/\H kn=some (.lst (ks.map V.str))/\kn≠l/\ks.length<=10000 /\
 ∀ (r:Rw) (H':Hp),Wd H' d l sc nl many xs->hJ [d,l,sc] H H'->cJ H' r->bW5 ks x r->Q (.ref r.p) H'
def zN (m:Nat):Sp:=fun vs H Q _=>∃ (d l sc nl kn:Addr) (many:Int) (xs ks:List Str) (tells deep:Int),vs=[.ref d,.ref sc,.ref kn,.int tells,.int deep]/\Wd H d l sc nl many xs/\H kn=some (.lst (ks.map V.str))/\kn≠l/\ks.length+cb m<=9000/\0<=tells/\tells<=4/\m<=3/\deep=3 - (m:Int) /\
 ∀ (p pr kn':Addr) (rs:List Rw) (k2:List Str) (H':Hp),Wd H' d l sc nl many xs->hJ [d,l,sc] H H'->H' p=some (.tup [.ref pr,.ref kn'])->H' pr=some (.tup (bG rs))->aX H' rs->aP rs<=cb m->(kn'=kn\/H kn'=none)->kn'≠l->H' kn'=some (.lst (k2.map V.str))->Blk ks rs k2 tells->dI rs<=m->Q (.ref p) H'
def bE7:Nat->Sp
 |0=>fun _ _ _ _=>False
 |m+1=>zN m
def bA5 (m:Nat):Sp:=fun vs H Q _=>∃ (d l sc nl kn:Addr) (many:Int) (xs ks:List Str) (tells deep:Int),vs=[.ref d,.ref sc,.ref kn,.int tells,.int deep]/\Wd H d l sc nl many xs/\H kn=some (.lst (ks.map V.str))/\kn≠l/\ks.length+cb m<=9000/\0<=tells/\tells<=4/\m<=2/\deep=2 - (m:Int) /\
 ∀ (p kn':Addr) (r:Rw) (k2:List Str) (H':Hp),Wd H' d l sc nl many xs->hJ [d,l,sc] H H'->H' p=some (.tup [.ref r.p,.ref kn'])->cJ H' r->r.cnt<=1+2 * cb m->H kn'=none->H' kn'=some (.lst (k2.map V.str))->ScR ks r k2->kU r=tells->wW r->r.dp<=m+1->Q (.ref p) H'
def aX7:Nat->Sp
 |0=>fun _ _ _ _=>False
 |m+1=>bA5 m
structure aP1 (H:Hp) (p:Addr) (ks:List Str) (rs:List Rw) (k2:List Str) (tells:Int):Prop where
 ex:∃ pk pr,H p=some (.tup [.ref pk,.ref pr])/\H pk=some (.tup (ks.map V.str))/\H pr=some (.tup (bG rs))
 rows:aX H rs
 cnt:aP rs<=4000
 sc:nO [] rs k2
 tl:cW rs=tells
 tk:eB rs
 k1:1<=ks.length
 k3:ks.length<=3
 t1:1<=tells
 nd:ks.Nodup
theorem aP1.ts {H H':Hp}{p:Addr}{ks:List Str}{rs:List Rw}{k2:List Str}{tells:Int}(t:TS H H') (P:aP1 H p ks rs k2 tells):aP1 H' p ks rs k2 tells :=
 ⟨let ⟨pk,pr,a,b,c⟩:=P.ex;⟨pk,pr,t _ _ a,t _ _ b,t _ _ c⟩,aX.ts t rs P.rows,P.cnt,P.sc,P.tl,P.tk,P.k1,P.k3,P.t1,P.nd⟩
def spPrg:Sp:=fun vs H Q _=>∃ (d l:Addr) (m:Int),vs=[.ref d,.int m]/\cS H d l /\
 ∀ (p:Addr) (ks:List Str) (rs:List Rw) (k2:List Str) (tells:Int) (H':Hp),cS H' d l->dZ d l H H'->aP1 H' p ks rs k2 tells->aP rs<=3490->tells<=4->dI rs<=3->Q (.ref p) H'
def spParts:Sp:=fun vs H Q _=>∃ t:Tm,vs=[.ref t.p]/\jT H t/\t.size<=900/\∀ (r:Addr) (H':Hp),bB H H'->H r=none->H' r=some (.lst (t.pre.map fun u=>V.ref u.p))->Q (.ref r) H'
abbrev Stq:=Str×Rw
def kQ (H:Hp) (z:V) (s:Stq):Prop:=∃ q,z= .ref q/\H q=some (.tup [.str s.1,.ref s.2.p])
def mG (H:Hp) (z:V) (s:Stp):Prop:=∃ q,z= .ref q/\H q=some (.tup [.str s.1,.ref s.2.1.p,.int s.2.2])
theorem kQ.ts {H H':Hp}(t:TS H H') {z:V}{s:Stq}(h:kQ H z s):kQ H' z s:=by obtain ⟨q,e,k⟩:=h;exact ⟨q,e,t _ _ k⟩
theorem mG.ts {H H':Hp}(t:TS H H') {z:V}{s:Stp}(h:mG H z s):mG H' z s:=by obtain ⟨q,e,k⟩:=h;exact ⟨q,e,t _ _ k⟩
def fF:Rw->List Stq
 |.when p pa pb t a b=>a.map (fun r=>(("row": Str),r))++[(("else": Str),Rw.when p pa pb t a b)]++b.map (fun r=>(("row": Str),r))++[(("end": Str),Rw.when p pa pb t a b)]
 |.times p pb n b=>b.map (fun r=>(("row": Str),r))++[(("end": Str),Rw.times p pb n b)]
 |.thr _ _ _ _ _=>[]
 |.lt _ _ _=>[]
 |.tell _ _=>[]
def spAsS:Sp:=fun vs H Q _=>∃ (p:Addr) (rs:List Rw),vs=[.ref p]/\H p=some (.tup (bG rs))/\rs.length<=4000 /\
 ∀ (r:Addr) (zs:List V) (H':Hp),bB H H'->H' r=some (.lst zs)->eL (kQ H') zs (rs.map fun r=>(("row": Str),r))->Q (.ref r) H'
def spInner:Sp:=fun vs H Q _=>∃ (r:Rw),vs=[.ref r.p]/\cJ H r/\r.cnt<=4000 /\
 ∀ (q:Addr) (zs:List V) (H':Hp),bB H H'->H' q=some (.lst zs)->eL (kQ H') zs (fF r)->Q (.ref q) H'
def spSteps:Sp:=fun vs H Q _=>∃ (p:Addr) (rs:List Rw),vs=[.ref p]/\H p=some (.tup (bG rs))/\aX H rs/\aP rs<=4000 /\
 ∀ (r:Addr) (zs:List V) (H':Hp),bB H H'->H r=none->H' r=some (.lst zs)->eL (mG H') zs (cR 0 rs)->Q (.ref r) H'
def Tm.nm:Tm->Option Str
 |.nam _ x=>some x
 |_=>none
theorem Tm.pre_names:∀ t:Tm,t.pre.filterMap Tm.nm=t.names
 |.num _ _=>rfl
 |.nam _ _=>rfl
 |.op p s a b=>by
  show List.filterMap Tm.nm (Tm.op p s a b :: (a.pre++b.pre))=a.names++b.names;rw [jj (by rfl),fm,Tm.pre_names a,Tm.pre_names b]
def spNamesIn:Sp:=fun vs H Q _=>∃ t:Tm,vs=[.ref t.p]/\jT H t/\t.size<=900/\∀ (r:Addr) (H':Hp),bB H H'->H' r=some (.lst (t.names.map V.str))->Q (.ref r) H'
def spSetsN:Sp:=fun vs H Q _=>∃ r:Rw,vs=[.ref r.p]/\cJ H r/\Q (.bl r.sets.isSome) H
def spAsked:Sp:=fun vs H Q _=>∃ r:Rw,vs=[.ref r.p]/\cJ H r/\∀ (q:Addr) (H':Hp),bB H H'->H' q=some (.lst (r.asked.map V.str))->Q (.ref q) H'
def spBegins:Sp:=fun vs H Q _=>∃ s:Stp,vs=[.str s.1,.ref s.2.1.p]/\cJ H s.2.1/\∀ H',bB H H'->Q (.bl (tI s)) H'
def spFirstA:Sp:=fun vs H Q _=>∃ (p:Addr) (x:Str) (us:List V) (am:Bool),vs=[.ref p]/\H p=some (.tup (.str "first" :: .str x :: us))/\kG H "first" us am/\Q (.bl am) H
def Rw.ams:Rw->Bool
 |.thr _ _ _ _ am=>am
 |.lt _ _ _=>false
 |.tell _ _=>false
 |.when _ _ _ _ _ _=>false
 |.times _ _ _ _=>false
def spRangeA:Sp:=fun vs H Q _=>∃ r:Rw,vs=[.ref r.p]/\cJ H r/\Q (.bl r.ams) H
def mJ (H:Hp) (ls:Addr) (zs:List V) (rs:List Rw):Prop:=H ls=some (.lst zs)/\eL (mG H) zs (cR 0 rs)/\aX H rs/\aP rs<=4000
theorem mJ.same {H H':Hp}(s:bB H H') {ls:Addr}{zs:List V}{rs:List Rw}(h:mJ H ls zs rs):mJ H' ls zs rs:=⟨s _ _ h.1,h.2.1.mono fun _ _ z=>mG.ts (.of s) z,aX.ts (.of s) rs h.2.2.1,h.2.2.2⟩
def rH (c:Int):Str:=if c=0 then "range" else if c=1 then "unknown" else "tells"
def jV (H:Hp) (z:V) (m:Ft):Prop:=∃ q,z= .ref q/\H q=some (.tup [.int m.1,.int m.2,.str (rH m.2)])
theorem jV.ts {H H':Hp}(t:TS H H') {z:V}{m:Ft}(h:jV H z m):jV H' z m:=by obtain ⟨q,e,k⟩:=h;exact ⟨q,e,t _ _ k⟩
def bA7 (H:Hp) (Q:VK) (fs:List Ft):Prop:=∀ (r:Addr) (us:List V) (H':Hp),bB H H'->H r=none->H' r=some (.lst us)->eL (jV H') us fs->Q (.ref r) H'
def spRangeF:Sp:=fun vs H Q _=>∃ (ls:Addr) (zs:List V) (rs:List Rw),vs=[.ref ls]/\mJ H ls zs rs/\bA7 H Q (wL 0 rs)
def spUnkF:Sp:=fun vs H Q _=>∃ (ls:Addr) (zs:List V) (rs:List Rw),vs=[.ref ls]/\mJ H ls zs rs/\bA7 H Q (uY 0 [] rs)
mutual
def kB:Rw->Prop
 |.when _ _ _ _ a b=>dQ a/\dQ b
 |.times _ _ n b=>0<=n/\n<=9/\dQ b
 |.thr _ _ _ _ _=>True
 |.lt _ _ _=>True
 |.tell _ _=>True
def dQ:List Rw->Prop
 |[]=>True
 |r :: rs=>kB r/\dQ rs
end
def spTelF:Sp:=fun vs H Q _=>∃ (ls:Addr) (zs:List V) (rs:List Rw),vs=[.ref ls]/\mJ H ls zs rs/\dQ rs/\dI rs<=6/\bA7 H Q (uZ 0 rs)
structure Dk (H:Hp) (a:Addr) (ns:List Str) (n:Nat):Prop where
 ex:∃ kvs:List (Key×V),H a=some (.dK kvs)/\(∀ x:Str,(fG kvs (Sum.inr x:Key)).isSome=true↔x∈ns)/\(∀ q∈kvs,∃ x,q.1=(Sum.inr x:Key))/\kvs.length<=n
theorem Dk.at {H H':Hp}{a:Addr}{ns:List Str}{n:Nat}(D:Dk H a ns n) (h:∀ o,H a=some o->H' a=some o):Dk H' a ns n:=⟨let ⟨k,e,r⟩:=D.ex;⟨k,h _ e,r⟩⟩
theorem Dk.more {H:Hp}{a:Addr}{ns:List Str}{n m:Nat}(D:Dk H a ns n) (h:n<=m):Dk H a ns m:=⟨let ⟨k,e,r1,r2,r3⟩:=D.ex;⟨k,e,r1,r2,by (exact oqj)⟩⟩
def spBoth:Sp:=fun vs H Q _=>∃ (a b:Addr) (ka kb:List Str) (n m:Nat),vs=[.ref a,.ref b]/\a≠b/\Dk H a ka n/\Dk H b kb m/\n<=20000 /\
 ∀ (d:Addr) (H':Hp),(∀ c o,H c=some o->c≠a->H' c=some o)->H d=none->Dk H' d (ka.filter fun x=>decide (x∈kb)) n->Q (.ref d) H'
theorem cE {n:Nat}(h:n<=9000000):n < sizeLine:=by rw [jf];lia
theorem aB1:∀ l:List Tm,l.length<=(l.flatMap Tm.pre).length
 |[]=>ai _
 |t :: r=>by have:=aB1 r;have:=t.size_pos;rw [cu,rc,ak,Tm.pre_len];lia
theorem bI9:¬ (V.str "num"=V.str "op"):=by decide +kernel
theorem bG2:¬ (V.str "name"=V.str "op"):=by decide +kernel
theorem wOM:¬ (V.str "op"=V.str "name"):=by decide +kernel
theorem wTW:¬ (V.str "times"=V.str "when"):=by decide +kernel
theorem wLW:¬ (V.str "let"=V.str "when"):=by decide +kernel
theorem wLT:¬ (V.str "let"=V.str "times"):=by decide +kernel
theorem wEW:¬ (V.str "tell"=V.str "when"):=by decide +kernel
theorem wET:¬ (V.str "tell"=V.str "times"):=by decide +kernel
theorem qV {w:Str}(h:w∈dF):¬ (V.str w=V.str "when"):=fun z=>by
 have e:w="when":=by injection z
 rw [e] at h;exact absurd h (by decide +kernel)
theorem xF {w:Str}(h:w∈dF):¬ (V.str w=V.str "times"):=fun z=>by
 have e:w="times":=by injection z
 rw [e] at h;exact absurd h (by decide +kernel)
theorem fL {v:V}{r:List V}:oK (v :: r) 0=some v:=by
 unfold oK ixN;rw [bc (uj 0),bc (by rw [cu];lia)];rfl
theorem bU (rs:List Rw):(bG rs).length=rs.length:=aa _
theorem iM {rs:List Rw}{i:Nat}{v:V}(h:(bG rs)[i]?=some v):∃ r,v= .ref r.p/\rs[i]?=some r:=by
 unfold bG at h;rw [dh] at h
 cases e:rs[i]? with
 |none=>rw [e] at h;cases h
 |some r=>rw [e] at h;exact ⟨r,(dk h).symm,rfl⟩
theorem kX (rs qs:List Rw):bG (rs++qs)=bG rs++bG qs:=bg ..
theorem jU {α: Type}{R:V->α->Prop}:∀ {vs:List V}{as:List α}{i:Nat}{v:V},eL R vs as->vs[i]?=some v->∃ a,as[i]?=some a/\R v a
 |[],[],i,v,_,h=>by cases h
 |v :: vs,a :: as,0,_,⟨e,_⟩,h=>by cases h;exact ⟨a,rfl,e⟩
 |v :: vs,a :: as,i+1,x,⟨_,r⟩,h=>by
  obtain ⟨b,h1,h2⟩:=jU (i:=i) (v:=x) r (by simpa using h);exact ⟨b,by simpa using h1,h2⟩
 |[],_ :: _,_,_,z,_=>z.elim
 |_ :: _,[],_,_,z,_=>z.elim
theorem uM {α: Type}{R:V->α->Prop}:∀ {vs:List V}{as:List α},eL R vs as->eL R vs.reverse as.reverse
 |[],[],_=>trivial
 |v :: vs,a :: as,⟨e,r⟩=>by
  rw [dm,dm];exact eL.append (uM r) ⟨e,trivial⟩
 |[],_ :: _,z=>z.elim
 |_ :: _,[],z=>z.elim
theorem wA {α: Type}{R:V->α->Prop}:∀ {as:List α}{vs:List V}{a:α},eL R vs (as++[a])->∃ us v,vs=us++[v]/\eL R us as/\R v a
 |[],[v],a,⟨e,_⟩=>⟨[],v,rfl,trivial,e⟩
 |[],_ :: _ :: _,_,⟨_,z⟩=>z.elim
 |[],[],_,z=>z.elim
 |b :: bs,[],_,z=>z.elim
 |b :: bs,v :: vs,a,⟨e,r⟩=>by
  obtain ⟨us,u,h1,h2,h3⟩:=wA (as:=bs) r;exact ⟨v :: us,u,by rw [h1];rfl,⟨e,h2⟩,h3⟩
theorem fQ:∀ {rs:List Rw}{r:Rw},r∈rs->r.cnt<=aP rs
 |[],_,h=>absurd h dj
 |q :: rs,r,h=>by
  simp only [aP];rcases cq.mp h with e | e
  ·rw [e];(exact oqI)
  ·have:=fQ e;lia
theorem aE6:∀ {r:Rw}{s:Stq},s∈fF r->s.2=r\/s.2∈r.kids
 |.when p pa pb t a b,s,h=>by
  simp only [fF,List.mem_append,List.mem_map,List.mem_singleton] at h;rcases h with ((⟨x,hx,e⟩ | e) | ⟨x,hx,e⟩) | e
  ·right;rw [<- e];exact fg _ hx
  ·left;rw [e]
  ·right;rw [<- e];exact cw _ hx
  ·left;rw [e]
 |.times p pb n b,s,h=>by
  simp only [fF,List.mem_append,List.mem_map,List.mem_singleton] at h;rcases h with ⟨x,hx,e⟩ | e
  ·right;rw [<- e];exact hx
  ·left;rw [e]
 |.thr _ _ _ _ _,_,h=>absurd h dj
 |.lt _ _ _,_,h=>absurd h dj
 |.tell _ _,_,h=>absurd h dj
theorem aL0 {H:Hp}{r:Rw}(h:cJ H r) (hc:r.cnt<=4000) {s:Stq}(m:s∈fF r):cJ H s.2/\s.2.cnt<=4000:=by
 rcases aE6 m with e | e
 ·rw [e];exact ⟨h,hc⟩
 ·have:=fQ e;have:=aP0 r;exact ⟨h.kids.mem _ e,by lia⟩
theorem dL (w:Str) (xs:List Str):oM (.str w) (xs.map V.str)=decide (w∈xs):=by
 unfold oM;rw [List.any_map]
 induction xs with
 |nil=>rfl
 |cons x r ih =>
  rw [ko,ih];have e:(eqV (V.str x) (V.str w))=decide (x=w):=rfl;show (eqV (V.str x) (V.str w) || _)=_;rw [e]
  by_cases c:x=w
  ·simp [c]
  ·have c2:¬ w=x:=fun z=>c z.symm
   simp [c,c2]
theorem eJ (xs:List Str):(xs.map V.str).all lV=true:=nX xs
theorem eT {xs:List Str}{i:Nat}{v:V}(h:(xs.map V.str)[i]?=some v):∃ x,v= .str x/\xs[i]?=some x:=by
 rw [dh] at h
 cases e:xs[i]? with
 |none=>rw [e] at h;cases h
 |some r=>rw [e] at h;exact ⟨r,(dk h).symm,rfl⟩
theorem vH {r x y z:Int}(h0:0<=r) (h1:r < 3):∃ w,oK [V.int x,V.int y,V.int z] r=some (.int w)/\(w=x\/w=y\/w=z):=by
 have:r=0\/r=1\/r=2:=by lia
 rcases this with rfl | rfl | rfl
 ·exact ⟨x,rfl,.inl rfl⟩
 ·exact ⟨y,rfl,.inr (.inl rfl)⟩
 ·exact ⟨z,rfl,.inr (.inr rfl)⟩
theorem aZ2 {r:Int}(h0:0<=r) (h1:r < 5):∃ c,oK ("+-*<=": Str).cps.toList r=some c/\(⟨#[c]⟩:Str)∈bR8:=by
 have:r=0\/r=1\/r=2\/r=3\/r=4:=by lia
 rcases this with rfl | rfl | rfl | rfl | rfl
 ·exact ⟨43,rfl,by decide +kernel⟩
 ·exact ⟨45,rfl,by decide +kernel⟩
 ·exact ⟨42,rfl,by decide +kernel⟩
 ·exact ⟨60,rfl,by decide +kernel⟩
 ·exact ⟨61,rfl,by decide +kernel⟩
theorem bK5 {m:Nat}{deep:Int}(hm:m<=3) (hd:deep=3 - (m:Int)):oK [V.int 8,V.int 5,V.int 3,V.int 3] deep=some (.int ((tn m:Int)+1)):=by
 have:m=0\/m=1\/m=2\/m=3:=by lia
 rcases this with rfl | rfl | rfl | rfl <;> (subst hd;rfl)
theorem bR1 {m:Nat}(hm:m<=3):cb m=tn m * pb m+4:=by
 have:m=0\/m=1\/m=2\/m=3:=by lia
 rcases this with rfl | rfl | rfl | rfl <;> rfl
theorem bQ2 (m:Nat):tn m<=7:=by
 unfold tn
 split <;> decide
theorem zB (m:Nat):cb m<=3483:=by
 unfold cb
 split <;> decide
theorem fS {H H':Hp}(t:TS H H'):∀ {vs:List V}{ps:List (Int×Int)},fB H vs ps->fB H' vs ps
 |[],[],_=>trivial
 |_ :: _,_ :: _,⟨⟨a,e,h⟩,r⟩=>⟨⟨a,e,t _ _ h⟩,fS t r⟩
 |[],_ :: _,z=>z.elim
 |_ :: _,[],z=>z.elim
theorem lQ {H:Hp}:∀ {vs us:List V}{ps qs:List (Int×Int)},fB H vs ps->fB H us qs->fB H (vs++us) (ps++qs)
 |[],_,[],_,_,h=>h
 |_ :: _,_,_ :: _,_,⟨e,r⟩,h=>⟨e,lQ r h⟩
 |[],_,_ :: _,_,z,_=>z.elim
 |_ :: _,_,[],_,z,_=>z.elim
theorem gF {H:Hp}:∀ {vs:List V}{ps:List (Int×Int)},fB H vs ps->vs.length=ps.length
 |[],[],_=>rfl
 |_ :: _,_ :: _,⟨_,r⟩=>by simp [gF r]
 |[],_ :: _,z=>z.elim
 |_ :: _,[],z=>z.elim
theorem vQ {H:Hp}:∀ {vs:List V}{ps:List (Int×Int)}{i:Nat}{v:V},fB H vs ps->vs[i]?=some v->∃ p∈ps,∃ a,v= .ref a/\H a=some (.tup [.int p.1,.int p.2])
 |[],[],i,v,_,h=>by cases h
 |v :: vs,p :: ps,0,_,⟨e,_⟩,h=>by cases h;exact ⟨p,bh,e⟩
 |v :: vs,p :: ps,i+1,x,⟨_,r⟩,h=>by
  obtain ⟨q,m,k⟩:=vQ (i:=i) (v:=x) r (by simpa using h);exact ⟨q,ay _ m,k⟩
 |[],_ :: _,_,_,z,_=>z.elim
 |_ :: _,[],_,_,z,_=>z.elim
theorem eV {α: Type}{xs:List α}{r:Int}(h0:0<=r) (h1:r < (xs.length:Int)):∃ v,xs[r.toNat]?=some v/\oK xs r=some v:=by
 have hk:r.toNat < xs.length:=by lia
 refine ⟨_,de hk,?_⟩;have q:=zD (de hk);rw [pw h0] at q;exact q
theorem bY1 {xs:List Str}(h:6<=xs.length):∃ ys:List Str,fE (xs.map V.str) none (some 6)=ys.map V.str/\ys.length=6:=by
 refine ⟨xs.take 6,?_,by rw [cv];lia⟩;unfold fE;have e:HT.sIx (xs.map V.str).length (xs.map V.str).length (some 6)=6:=by
  rw [show (6:Int)=((6:Nat):Int) from rfl,HT.sIx_nat,aa]
  lia
 rw [e,show HT.sIx (xs.map V.str).length 0 none=0 from rfl,ql,nt]
theorem vX (m:Int) (nl:Addr) (v:Int):iT [] (dX m nl v)=dX m nl v:=by
 unfold iT dX;simp only [List.foldl_cons,List.foldl_nil];have e1:fH ([]:List (Key×V)) (Sum.inr ("many": Str)) (V.int m)=[(Sum.inr ("many": Str),V.int m)]:=rfl;have e2:fH [(Sum.inr ("many": Str),V.int m)] (Sum.inr ("names": Str):Key) (V.ref nl)=[(Sum.inr ("many": Str),V.int m),(Sum.inr ("names": Str),V.ref nl)]:=mY _ (by rw [cC kmn,jZ]);have e3:fH [(Sum.inr ("many": Str),V.int m),(Sum.inr ("names": Str),V.ref nl)] (Sum.inr ("left": Str):Key) (V.int v)=[(Sum.inr ("many": Str),V.int m),(Sum.inr ("names": Str),V.ref nl)]++[(Sum.inr ("left": Str),V.int v)]:=mY _ (by rw [cC kml,cC knL,jZ]);rw [e1,e2,e3];rfl
theorem aT8 {H H1 H2:Hp}{d l sc:Addr}(o:dZ d l H H1) (n:H sc=none) (o2:hJ [d,l,sc] H1 H2):dZ d l H H2:=fun b u e h1 h2=>by
 refine o2 b u (o b u e h1 h2) fun m=>?_
 simp only [List.mem_cons,List.not_mem_nil,or_false] at m;rcases m with m | m | m
 ·exact h1 m
 ·exact h2 m
 ·rw [m,n] at e;cases e
theorem pP (xs:List Str) (i:Nat):(xs.map V.str).eraseIdx i=(xs.eraseIdx i).map V.str:=by
 induction xs generalizing i with
 |nil=>cases i <;> rfl
 |cons x r ih =>
  cases i with
  |zero=>rfl
  |succ i=>simp [ih]
theorem bV3 {x:Int}{n:Nat}(h0:0<=x) (h1:x < (n:Int)):seqIndex? x n=some x.toNat:=by
 have e:(if x < 0 then x+(n:Int) else x)=x:=ar (by lia);show (if (decide (0<=(if x < 0 then x+(n:Int) else x)) && decide ((if x < 0 then x+(n:Int) else x) < (n:Int)))=true then some (if x < 0 then x+(n:Int) else x).toNat else none)=_;rw [e,bc (by rw [af h0,af h1];rfl)]
def eP:List Stp->Nat
 |[]=>0
 |s :: r=>(if s.1="row" then s.2.1.cnt else 0)+eP r
def fJ (k:Nat):List Stp->List Stp
 |[]=>[]
 |s :: r=>if s.1="row" then dE k s.2.1++fJ (k+s.2.1.cnt) r else s :: fJ k r
def qH (k:Nat) (s:Stq):Stp:=(s.1,s.2,k)
theorem iG:∀ (l m:List Stp) (k:Nat),fJ k (l++m)=fJ k l++fJ (k+eP l) m
 |[],m,k=>by simp only [List.nil_append,fJ,eP,Nat.add_zero]
 |s :: r,m,k=>by
  simp only [List.cons_append,fJ,eP]
  by_cases c:s.1="row"
  ·rw [bc c,bc c,bc c,iG r m,mo,Nat.add_assoc]
  ·rw [ar c,ar c,ar c,iG r m,ww,nu]
theorem jB:∀ (rs:List Rw) (k j:Nat),fJ k (rs.map fun r=>qH j (("row": Str),r))=cR k rs/\eP (rs.map fun r=>qH j (("row": Str),r))=aP rs
 |[],k,j=>⟨by simp only [List.map_nil,fJ,cR],by simp only [List.map_nil,eP,aP]⟩
 |r :: rs,k,j=>by
  have h:=jB rs (k+r.cnt) j;simp only [List.map_cons,fJ,eP,cR,aP,qH,if_true];exact ⟨dg _ h.1,dg _ h.2⟩
theorem vP {s:Stp}{k:Nat}{r:List Stp}(h:s.1="row"):fJ k (s :: r)=dE k s.2.1++fJ (k+s.2.1.cnt) r:=by rw [fJ,bc h]
theorem kH {s:Stp}{k:Nat}{r:List Stp}(h:¬ s.1="row"):fJ k (s :: r)=s :: fJ k r:=by rw [fJ,ar h]
theorem fZ:∀ (l m:List Stp),eP (l++m)=eP l+eP m
 |[],m=>by simp only [List.nil_append,eP,Nat.zero_add]
 |s :: r,m=>by simp only [List.cons_append,eP,fZ r m,Nat.add_assoc]
theorem nG {s:Stp}(h:¬ s.1="row"):eP [s]=0:=by simp only [eP,if_neg h]
theorem qQ (k:Nat) (rs:List Rw):((rs.map fun r=>(("row": Str),r)).map (qH k))=rs.map fun r=>qH k (("row": Str),r):=by rw [ke];rfl
theorem vS:∀ (r:Rw) (k:Nat),dE k r=(("row": Str),r,k) :: fJ (k+1) ((fF r).map (qH k))/\1+eP ((fF r).map (qH k))=r.cnt
 |.when p pa pb t a b,k=>by
  obtain ⟨h1,h2⟩:=jB a (k+1) k;obtain ⟨h3,h4⟩:=jB b (k+1+aP a) k;simp only [fF,List.map_append,qQ,List.map_cons,List.map_nil];have e1:¬ (qH k (("else": Str),Rw.when p pa pb t a b)).1="row":=yK;have e2:¬ (qH k (("end": Str),Rw.when p pa pb t a b)).1="row":=nW;refine ⟨?_,?_⟩
  ·rw [iG,iG,iG,fZ,nG e1,h2,h1];simp only [Nat.add_zero];rw [h3,kH e1,kH e2];simp only [fJ,dE];rfl
  ·rw [fZ,fZ,fZ,nG e1,nG e2,h2,h4];simp only [Rw.cnt]
   lia
 |.times p pb n b,k=>by
  obtain ⟨h1,h2⟩:=jB b (k+1) k;simp only [fF,List.map_append,qQ,List.map_cons,List.map_nil];have e2:¬ (qH k (("end": Str),Rw.times p pb n b)).1="row":=nW;refine ⟨?_,?_⟩
  ·rw [iG,h1,kH e2];simp only [fJ,dE];rfl
  ·rw [fZ,nG e2,h2];simp only [Rw.cnt];lia
 |.thr p w x vs am,k=>⟨by simp only [dE,fF,List.map_nil,fJ],by simp only [fF,List.map_nil,eP,Rw.cnt]⟩
 |.lt p x t,k=>⟨by simp only [dE,fF,List.map_nil,fJ],by simp only [fF,List.map_nil,eP,Rw.cnt]⟩
 |.tell p t,k=>⟨by simp only [dE,fF,List.map_nil,fJ],by simp only [fF,List.map_nil,eP,Rw.cnt]⟩
theorem aG1 {s:Stp}{k:Nat}{r:List Stp}(h:s.1="row"):fJ k (s :: r)=(("row": Str),s.2.1,k) :: fJ (k+1) ((fF s.2.1).map (qH k)++r):=by
 obtain ⟨h1,h2⟩:=vS s.2.1 k;rw [vP h,h1,iG,nu, <- h2]
 congr 3
 lia
theorem aN7 (r:Rw) (k:Nat):1<=(dE k r).length:=by rw [(vS r k).1];simp
theorem mS:∀ (l:List Stp) (k:Nat),l.length<=(fJ k l).length
 |[],k=>ai _
 |s :: r,k=>by
  by_cases c:s.1="row"
  ·have:=mS r (k+s.2.1.cnt);have:=aN7 s.2.1 k;rw [vP c,cu,ak];lia
  ·have:=mS r k;rw [kH c,cu,cu];lia
def kN (H:Hp) (z:V) (s:Stp):Prop:=∃ q m,z= .ref q/\H q=some (.tup [.str s.1,.ref s.2.1.p,.int m])/\(¬ s.1="row"->m=(s.2.2:Int))
theorem kN.ts {H H':Hp}(t:TS H H') {z:V}{s:Stp}(h:kN H z s):kN H' z s:=by
 obtain ⟨q,m,e,k,l⟩:=h;exact ⟨q,m,e,t _ _ k,l⟩
mutual
theorem aT1:∀ (r:Rw) (k:Nat) (kn kn' k2:List Str),(∀ x,x∈kn'↔x∈kn)->ScR kn r k2->wW r->lf k kn' r=[]/\∀ x,x∈lk kn' r↔x∈k2
 |.thr _ _ x _ am,k,kn,kn',k2,q,h,_=>by
  obtain ⟨h1,h2⟩:=h;subst h1 h2;exact ⟨by simp only [lf,oU,Bool.false_eq_true,if_false],fun y=>by simp only [lk,List.mem_append,q]⟩
 |.lt _ x t,k,kn,kn',k2,q,h,_=>by
  obtain ⟨h1,h2⟩:=h;subst h1;exact ⟨by simp only [lf,mQ];rw [bc fun y hy=>(q y).mpr (h2 y hy)],fun y=>by simp only [lk,List.mem_append,q]⟩
 |.tell _ t,k,kn,kn',k2,q,h,_=>by
  obtain ⟨h1,h2⟩:=h;subst h1;exact ⟨by simp only [lf,mQ];rw [bc fun y hy=>(q y).mpr (h2 y hy)],fun y=>by simp only [lk,q]⟩
 |.when _ _ _ t a b,k,kn,kn',k2,q,h,g=>by
  obtain ⟨h1,k3,k4,h3,h4,h5⟩:=h;obtain ⟨g1,g2,g3⟩:=g;obtain ⟨e1,m1⟩:=kR a (k+1) kn kn' k3 q h3 g2;obtain ⟨e2,m2⟩:=kR b (k+1+aP a) kn kn' k4 q h4 g3;refine ⟨?_,fun y=>?_⟩
  ·simp only [lf,mQ,tls,e1,e2];rw [bc fun y hy=>(q y).mpr (h1 y hy),bc g1];rfl
  ·simp only [lk,List.mem_filter,decide_eq_true_eq,h5,m1,m2];exact And.comm
 |.times _ _ _ b,k,kn,kn',k2,q,h,g=>by
  obtain ⟨e1,m1⟩:=kR b (k+1) kn kn' k2 q h g.2;exact ⟨by simp only [lf,e1],fun y=>by simp only [lk,m1]⟩
theorem kR:∀ (rs:List Rw) (k:Nat) (kn kn' k2:List Str),(∀ x,x∈kn'↔x∈kn)->nO kn rs k2->eB rs->iW k kn' rs=[]/\∀ x,x∈fX kn' rs↔x∈k2
 |[],k,kn,kn',k2,q,h,_=>by
  have h:k2=kn:=h;subst h;exact ⟨by simp only [iW],fun y=>by simp only [fX,q]⟩
 |r :: rs,k,kn,kn',k2,q,⟨k1,h1,h2⟩,⟨g1,g2⟩=>by
  obtain ⟨e1,m1⟩:=aT1 r k kn kn' k1 q h1 g1;obtain ⟨e2,m2⟩:=kR rs (k+r.cnt) k1 (lk kn' r) k2 m1 h2 g2;exact ⟨by simp only [iW,e1,e2,List.append_nil],fun y=>by simp only [fX,m2]⟩
end
theorem p9 (n:Nat):(1:Int)<=9 ^ n:=by
 induction n with
 |zero=>decide
 |succ n ih=>rw [wx];lia
theorem aK7 {n m:Nat}(h:n<=m):(9:Int) ^ n<=9 ^ m:=by
 induction m with
 |zero=>rw [Nat.le_zero.mp h];exact uj _
 |succ m ih =>
  by_cases c:n=m+1
  ·rw [c];exact uj _
  ·have:=ih (by lia);have:=p9 m;rw [wx];lia
mutual
theorem bH0:∀ r:Rw,kB r->0<=kU r/\kU r<=9 ^ r.dp * (r.cnt:Int)
 |.thr _ _ _ _ _,_=>by simp only [kU,Rw.dp,Rw.cnt];decide
 |.lt _ _ _,_=>by simp only [kU,Rw.dp,Rw.cnt];decide
 |.tell _ _,_=>by simp only [kU,Rw.dp,Rw.cnt];decide
 |.when _ _ _ _ a b,h=>by
  have h1:=tY a h.1;simp only [kU,Rw.dp,Rw.cnt];refine ⟨h1.1,Int.le_trans h1.2 ?_⟩;refine Int.mul_le_mul (aK7 (by lia)) (by lia) (by (exact jq _)) (by have:=p9 (1+max (dI a) (dI b));(exact oqb))
 |.times _ _ n b,h=>by
  have h1:=tY b h.2.2;simp only [kU,Rw.dp,Rw.cnt];refine ⟨Int.mul_nonneg h.1 h1.1,?_⟩;have h2:n * cW b<=9 * (9 ^ dI b * (aP b:Int)):=Int.mul_le_mul h.2.1 h1.2 h1.1 (by decide);have h3:(9:Int) * (9 ^ dI b * (aP b:Int))=9 ^ (1+dI b) * (aP b:Int):=by rw [Nat.add_comm,wx, <- Int.mul_assoc,Int.mul_comm 9]
  have h4:(9:Int) ^ (1+dI b) * (aP b:Int)<=9 ^ (1+dI b) * ((1+aP b:Nat):Int):=Int.mul_le_mul_of_nonneg_left (by lia) (by have:=p9 (1+dI b);(exact oqb))
  lia
theorem tY:∀ rs:List Rw,dQ rs->0<=cW rs/\cW rs<=9 ^ dI rs * (aP rs:Int)
 |[],_=>by simp only [cW,dI,aP];decide
 |r :: rs,h=>by
  have h1:=bH0 r h.1;have h2:=tY rs h.2;simp only [cW,dI,aP];have h3:(9:Int) ^ r.dp * (r.cnt:Int)<=9 ^ max r.dp (dI rs) * (r.cnt:Int):=pe (aK7 (by lia)) (by (exact jq _));have h4:(9:Int) ^ dI rs * (aP rs:Int)<=9 ^ max r.dp (dI rs) * (aP rs:Int):=pe (aK7 (by lia)) (by (exact jq _));refine ⟨by lia,?_⟩;rw [show ((r.cnt+aP rs:Nat):Int)=(r.cnt:Int)+(aP rs:Int) by lia,Int.mul_add]
  lia
end
theorem aF1 {w:Str}(h:w∈dF):w≠"tell":=by
 simp only [dF,List.mem_cons,List.not_mem_nil,or_false] at h;rcases h with rfl | rfl | rfl | rfl <;> decide +kernel
mutual
theorem cJ.wd {H:Hp}:∀ (r:Rw),cJ H r->WdR r
 |.thr _ _ _ _ _,h=>h.2.w
 |.lt _ _ _,_=>trivial
 |.tell _ _,_=>trivial
 |.when _ _ _ _ a b,h=>⟨aX.wd a h.2.2.2.2.2.1,aX.wd b h.2.2.2.2.2.2⟩
 |.times _ _ _ b,h=>aX.wd b h.2.2
theorem aX.wd {H:Hp}:∀ (rs:List Rw),aX H rs->WdL rs
 |[],_=>trivial
 |r :: rs,h=>⟨cJ.wd r h.1,aX.wd rs h.2⟩
end
mutual
theorem aJ5:∀ (r:Rw) {H:Hp}(k:Nat),cJ H r->∀ s∈dE k r,cJ H s.2.1
 |.thr p w x vs am,H,k,h,s,hs=>by
  simp only [dE,List.mem_singleton] at hs;rw [hs];exact h
 |.lt p x t,H,k,h,s,hs=>by
  simp only [dE,List.mem_singleton] at hs;rw [hs];exact h
 |.tell p t,H,k,h,s,hs=>by
  simp only [dE,List.mem_singleton] at hs;rw [hs];exact h
 |.when p pa pb t a b,H,k,h,s,hs=>by
  simp only [dE,List.mem_cons,List.mem_append,List.mem_singleton,List.not_mem_nil,or_false] at hs;rcases hs with e | ((e | e) | e) | e
  ·rw [e];exact h
  ·exact fM a _ h.2.2.2.2.2.1 s e
  ·rw [e];exact h
  ·exact fM b _ h.2.2.2.2.2.2 s e
  ·rw [e];exact h
 |.times p pb n b,H,k,h,s,hs=>by
  simp only [dE,List.mem_cons,List.mem_append,List.mem_singleton,List.not_mem_nil,or_false] at hs;rcases hs with e | e | e
  ·rw [e];exact h
  ·exact fM b _ h.2.2 s e
  ·rw [e];exact h
theorem fM:∀ (rs:List Rw) {H:Hp}(k:Nat),aX H rs->∀ s∈cR k rs,cJ H s.2.1
 |[],H,k,h,s,hs=>by simp only [cR] at hs;cases hs
 |r :: rs,H,k,h,s,hs=>by
  simp only [cR,List.mem_append] at hs;rcases hs with e | e
  ·exact aJ5 r k h.1 s e
  ·exact fM rs _ h.2 s e
end
theorem zH (a b:Str):(a++b).cps=a.cps++b.cps:=rfl
theorem aT6 {a b:Str}{c c':Nat}(h:a++(⟨#[c]⟩:Str)++b=a++(⟨#[c']⟩:Str)++b):c=c':=by
 have e:=dg (fun z:Str=>z.cps.toList) h;simp only [zH,Array.toList_append] at e;have e2:=List.append_cancel_left (sk e)
 simpa using e2
theorem bG1 {r:Nat}(h:r < 26):oK ("abcdefghijklmnopqrstuvwxyz": Str).cps.toList (r:Int)=some (97+r):=by
 have:r=0\/r=1\/r=2\/r=3\/r=4\/r=5\/r=6\/r=7\/r=8\/r=9\/r=10\/r=11\/r=12\/r=13\/r=14\/r=15\/r=16\/r=17\/r=18\/r=19\/r=20\/r=21\/r=22\/r=23\/r=24\/r=25:=by lia
 rcases this with rfl | rfl | rfl | rfl | rfl | rfl | rfl | rfl | rfl | rfl | rfl | rfl | rfl | rfl | rfl | rfl | rfl | rfl | rfl | rfl | rfl | rfl | rfl | rfl | rfl | rfl <;> decide +kernel
def aB5 (tn:Int) (k:Nat):Nat:=97+((tn+7 * (k:Int)) % 26).toNat
theorem aW3 (tn:Int) (k:Nat):oK ("abcdefghijklmnopqrstuvwxyz": Str).cps.toList ((tn+7 * (0+(k:Int))) % 26)=some (aB5 tn k):=by
 have h0:0<=(tn+7 * (k:Int)) % 26:=pf _ (by decide);have h1:(tn+7 * (k:Int)) % 26 < 26:=md _ (by decide);have e:((tn+7 * (0+(k:Int))) % 26)=(((tn+7 * (k:Int)) % 26).toNat:Int):=by rw [Int.zero_add,pw h0]
 rw [e,bG1 (by lia)];rfl
theorem aO1 {tn:Int}{i j:Nat}(hi:i < 9) (hj:j < 9) (h:aB5 tn i=aB5 tn j):i=j:=by
 unfold aB5 at h;omega
def wdK (a b:Str) (tn:Int) (k:Nat):Str:=a++(⟨#[aB5 tn k]⟩:Str)++b
def bC2 (a b:Str) (tn:Int) (i:Nat) (ws:List Str):Prop:=ws.Nodup/\∀ w∈ws,∃ j,j < i/\(w=wdK a b tn j\/w=wdK a b tn j++"q")
theorem zV (a b:Str) (tn:Int) (k:Nat):(wdK a b tn k).length=a.length+1+b.length:=by
 unfold wdK;rw [kr,kr];rfl
theorem aY0:("q": Str).length=1:=by decide
theorem aF2 {a b:Str}{tn:Int}{i:Nat}{ws:List Str}(h:bC2 a b tn i ws) (hi:i < 9) {w:Str}(hw:w=wdK a b tn i\/w=wdK a b tn i++"q"):bC2 a b tn (i+1) (ws++[w]):=by
 refine ⟨?_,fun v hv=>?_⟩
 ·rw [mq];refine ⟨h.1,by simp,fun x hx y hy=>?_⟩;rw [dq.mp hy];obtain ⟨j,hj,e⟩:=h.2 x hx;intro z;have li:=zV a b tn i;have lj:=zV a b tn j;have ne:wdK a b tn j≠wdK a b tn i:=fun q=>by
   have:=aO1 (by lia) hi (aT6 q)
   lia
  rcases e with e | e <;> rcases hw with e2 | e2
  ·exact ne (by rw [<- e, <- e2,z])
  ·have:=dg Str.length (e.symm.trans (z.trans e2));rw [kr,aY0] at this
   lia
  ·have:=dg Str.length (e.symm.trans (z.trans e2));rw [kr,aY0] at this
   lia
  ·refine ne ?_;have e3:=dg (fun z:Str=>z.cps.toList) (e.symm.trans (z.trans e2));simp only [zH,Array.toList_append] at e3;have e4:=sk e3;have e5:=Array.toList_inj.mp e4;show (wdK a b tn j)=_
   cases hj':wdK a b tn j
   cases hi':wdK a b tn i
   rw [hj',hi'] at e5;exact dg Str.mk e5
 ·rcases du.mp hv with e | e
  ·obtain ⟨j,hj,q⟩:=h.2 v e;exact ⟨j,by lia,q⟩
  ·rw [dq.mp e];exact ⟨i,by lia,hw⟩
theorem aE8 {ys xs:List Str}{j:Nat}{x:Str}(h:(ys++xs).Nodup) (hx:xs[j]?=some x):((ys++[x])++xs.eraseIdx j).Nodup:=by
 obtain ⟨hj,rfl⟩:=az.mp hx;have p:(xs[j] :: xs.eraseIdx j).Perm xs:=by
  rw [List.eraseIdx_eq_take_drop_succ];have e:xs=xs.take j++(xs[j] :: xs.drop (j+1)):=by rw [ui,vd]
  exact (List.perm_middle (a:=xs[j])).symm.trans (by rw [<- e])
 have e:(ys++[xs[j]])++xs.eraseIdx j=ys++(xs[j] :: xs.eraseIdx j):=by simp
 rw [e];exact ((List.Perm.append_left ys p).nodup_iff).mpr h
theorem yC {ks:List Str}(h:ks.Nodup):(ks.map (fun x=>(Sum.inr x:Key))).Nodup:=by
 rw [List.nodup_iff_pairwise_ne,List.pairwise_map];exact h.imp fun z q=>z (by injection q)
theorem bQ7 {x y:Str}(h:¬ x=y):¬ ((Sum.inr x:Key)=Sum.inr y):=fun z=>h (by injection z)
theorem Dk.new {H:Hp}{a:Addr}(h:H a=some (.dK [])):Dk H a [] 0:=⟨[],h,fun x=>by rw [jZ];simp,fun q hq=>absurd hq dj,ai _⟩
theorem Dk.ext {H:Hp}{a:Addr}{ns ms:List Str}{n:Nat}(D:Dk H a ns n) (h:∀ x,x∈ns↔x∈ms):Dk H a ms n:=⟨let ⟨k,e,r1,r2,r3⟩:=D.ex;⟨k,e,fun x=>(r1 x).trans (h x),r2,r3⟩⟩
theorem Dk.get {H:Hp}{a:Addr}{ns:List Str}{n:Nat}(D:Dk H a ns n) (x:Str):∃ o:Option V,iS H a (.str x) o/\o.isSome=decide (x∈ns):=by
 obtain ⟨kvs,e,r1,_⟩:=D.ex;refine ⟨_,iS.k (k:=Sum.inr x) e,?_⟩
 by_cases c:x∈ns
 ·rw [af c];exact (r1 x).mpr c
 ·rw [au c]
  cases q:(fG kvs (Sum.inr x:Key)).isSome with
  |false=>rfl
  |true=>exact absurd ((r1 x).mp q) c
theorem aE1 {m:List (Key×V)}{k:Key}{v:V}{q:Key×V}(h:q∈fH m k v):q.1=k\/∃ p∈m,q.1=p.1:=by
 unfold fH at h
 split at h
 ·obtain ⟨p,hp,e⟩:=kg.mp h
  by_cases c:p.1=k
  ·rw [bc c] at e;rw [<- e];exact .inr ⟨p,hp,rfl⟩
  ·rw [ar c] at e;rw [<- e];exact .inr ⟨p,hp,rfl⟩
 ·rcases du.mp h with e | e
  ·exact .inr ⟨q,e,rfl⟩
  ·rw [dq.mp e];exact .inl rfl
theorem Dk.put {H:Hp}{a:Addr}{ns:List Str}{n:Nat}(D:Dk H a ns n) (hn:n<=20000) (x:Str) (v:V):∃ o:HO,oV H a (.str x) v (aJ H a o)/\Dk (aJ H a o) a (ns++[x]) (n+1)/\∃ q,o= .dK q:=by
 obtain ⟨kvs,e,r1,r2,r3⟩:=D.ex;refine ⟨_,oV.k (k:=Sum.inr x) e (cE (by lia)),⟨_,aC,fun y=>?_,fun q hq=>?_,?_⟩,_,rfl⟩
 ·rw [aI3]
  by_cases c:y=x
  ·rw [bc (by rw [c]),c];simp
  ·rw [ar (bQ7 c),r1 y];simp [c]
 ·rcases aE1 hq with z | ⟨p,hp,z⟩
  ·exact ⟨x,z⟩
  ·rw [z];exact r2 p hp
 ·have:=iO kvs (Sum.inr x:Key) v
  lia
def pG (H:Hp) (n:Nat):List Addr->List (List Str)->Prop
 |[],[]=>True
 |a :: r,k :: q=>Dk H a k n/\pG H n r q
 |[],_ :: _=>False
 |_ :: _,[]=>False
theorem pG.at {H H':Hp}{n m:Nat}(hm:n<=m):∀ {as:List Addr}{ks:List (List Str)},pG H n as ks->(∀ a∈as,∀ o,H a=some o->H' a=some o)->pG H' m as ks
 |[],[],_,_=>trivial
 |a :: r,k :: q,⟨h,h2⟩,e=>⟨(h.at (e a bh)).more hm,pG.at hm h2 fun b hb=>e b (ay _ hb)⟩
 |[],_ :: _,z,_=>z.elim
 |_ :: _,[],z,_=>z.elim
theorem pG.is {H:Hp}{n:Nat}:∀ {as:List Addr}{ks:List (List Str)},pG H n as ks->∀ a∈as,∃ q,H a=some (.dK q)
 |[],[],_,_,h=>absurd h dj
 |a :: r,k :: q,⟨h,h2⟩,b,hb=>by
  rcases cq.mp hb with e | e
  ·rw [e];obtain ⟨kvs,z,_⟩:=h.ex;exact ⟨kvs,z⟩
  ·exact pG.is h2 b e
 |[],_ :: _,z,_,_=>z.elim
 |_ :: _,[],z,_,_=>z.elim
theorem pG.cons {H:Hp}{n:Nat}{as:List Addr}{k:List Str}{ks:List (List Str)}(h:pG H n as (k :: ks)):∃ a r,as=a :: r/\Dk H a k n/\pG H n r ks:=by
 cases as with
 |nil=>exact h.elim
 |cons a r=>exact ⟨a,r,rfl,h.1,h.2⟩
theorem pG.len {H:Hp}{n:Nat}:∀ {as:List Addr}{ks:List (List Str)},pG H n as ks->as.length=ks.length
 |[],[],_=>rfl
 |a :: r,k :: q,⟨_,h2⟩=>by rw [cu,cu,pG.len h2]
 |[],_ :: _,z=>z.elim
 |_ :: _,[],z=>z.elim
def aF3 (kvs:List (Key×V)):List Str:=kvs.filterMap fun q=>q.1.elim (fun _=>none) some
theorem aG2 {kvs:List (Key×V)}{x:Str}:x∈aF3 kvs↔(fG kvs (Sum.inr x:Key)).isSome=true:=by
 unfold aF3;rw [iy]
 constructor
 ·rintro ⟨⟨k,v⟩,m,e⟩
  cases k with
  |inl n=>cases e
  |inr y =>
   cases e
   unfold fG;rw [mi,xu];exact ⟨_,m,af rfl⟩
 ·intro h;unfold fG at h;rw [mi,xu] at h;obtain ⟨q,m,e⟩:=h;refine ⟨q,m,?_⟩;rw [ag e];rfl
theorem mL {α σ: Type}{f:α->σ->Option σ}(μ: σ->Nat) (h:∀ a st st',f a st=some st'->μ st'<=μ st+1):∀ (l:List α) (st e:σ),fC f l st=some e->μ e<=μ st+l.length
 |[],st,e,z=>by cases z;exact ai _
 |a :: r,st,e,z=>by
  have z:(f a st).bind (fC f r)=some e:=z
  cases q:f a st with
  |none=>rw [q] at z;cases z
  |some s1 =>
   rw [q] at z;have:=h a st s1 q;have:=mL μ h r s1 e z;rw [cu];lia
theorem bS4 (s:Stp) (st st':USt) (h:iC s st=some st'):st'.2.2.length<=st.2.2.length+1:=by
 unfold iC at h
 split at h
 ·cases h
  unfold rJ
  split <;> simp only [List.length_cons] <;> omega
 ·split at h
  ·unfold zG at h
   split at h
   ·rename_i x y e
    cases h
    rw [e];simp only [List.length_cons];(exact df _)
   ·cases h
  ·split at h
   ·unfold aG3 at h
    split at h
    ·rename_i x y e
     cases h
     rw [e];simp only [List.length_cons];lia
    ·cases h
   ·cases h;(exact df _)
theorem bO8 (s:Stp) (st st':TSt) (h:gM s st=some st'):st'.2.length<=st.2.length+1:=by
 unfold gM at h
 split at h
 ·cases h;simp only [List.length_cons];(exact ai _)
 ·split at h
  ·unfold aQ1 at h
   split at h
   ·rename_i x y e
    cases h
    rw [e];simp only [List.length_cons];(exact df _)
   ·cases h
  ·split at h
   ·unfold vO at h
    split at h
    ·split at h
     ·rename_i e
      cases h
      rw [e];simp only [List.length_cons];lia
     ·cases h
     ·cases h
    ·split at h
     ·rename_i e
      cases h
      rw [e];simp only [List.length_cons];lia
     ·cases h
     ·cases h
     ·cases h
    all_goals cases h
   ·cases h;(exact df _)
theorem aJ8 {r:Rw}(h:WdR r):(decide (r.w∈dF) || decide (r.w="let"))=r.sets.isSome:=by
 cases r with
 |thr p w x vs am =>
  have h:w∈dF:=h;show (decide (w∈dF) || _)=true;rw [af h];rfl
 |lt p x t=>show (_ || decide (("let": Str)="let"))=true;simp
 |tell p t=>show (decide (("tell": Str)∈dF) || decide (("tell": Str)="let"))=false;decide +kernel
 |when p pa pb t a b=>show (decide (("when": Str)∈dF) || decide (("when": Str)="let"))=false;decide +kernel
 |times p pb n b=>show (decide (("times": Str)∈dF) || decide (("times": Str)="let"))=false;decide +kernel
theorem aX9 {r:Rw}(h:WdR r):decide (V.str r.w=V.str "when")=jS r:=by
 cases r with
 |thr p w x vs am =>
  exact au (qV (show w∈dF from h))
 |lt p x t=>exact au wLW
 |tell p t=>exact au wEW
 |when p pa pb t a b=>exact af rfl
 |times p pb n b=>exact au wTW
theorem at1 {v u:V}{r:List V}:oK (v :: u :: r) 1=some u:=by
 unfold oK ixN;rw [bc (by decide),bc (by simp only [List.length_cons];lia)];rfl
theorem wMN:¬ (V.str "num"=V.str "name"):=by decide +kernel
theorem wTL:¬ (V.str "tell"=V.str "let"):=by decide +kernel
theorem wWL:¬ (V.str "when"=V.str "let"):=by decide +kernel
theorem wML:¬ (V.str "times"=V.str "let"):=by decide +kernel
theorem wWT:¬ (V.str "when"=V.str "times"):=by decide +kernel
theorem bG8 {w:Str}(h:w∈dF):¬ (V.str w=V.str "let"):=fun z=>by
 have e:w="let":=by injection z
 rw [e] at h;exact absurd h (by decide +kernel)
theorem bJ1 {w:Str}(h:w∈dF):¬ (oM (V.str w) [.str "tell",.str "when"]=true):=by
 rw [show ([V.str "tell",V.str "when"]:List V)=(["tell","when"]:List Str).map V.str from rfl,dL];simp only [dF,List.mem_cons,List.not_mem_nil,or_false] at h;rcases h with rfl | rfl | rfl | rfl <;> decide +kernel
theorem Tm.names_len:∀ t:Tm,t.names.length<=t.size
 |.num _ _=>av _
 |.nam _ _=>ai _
 |.op _ _ a b=>by have:=a.names_len;have:=b.names_len;simp only [Tm.names,Tm.size,List.length_append];lia
theorem aB7 {H:Hp}:∀ {r:Rw},cJ H r->r.asked.length<=9000000
 |.thr _ _ _ _ _,_=>av _
 |.lt _ _ t,h=>by have:=t.names_len;have:=h.2.2.2;show t.names.length<=_;lia
 |.tell _ t,h=>by have:=t.names_len;have:=h.2.2.2;show t.names.length<=_;lia
 |.when _ _ _ t _ _,h=>by have:=t.names_len;have:=h.2.2.1.2;show t.names.length<=_;lia
 |.times _ _ _ _,_=>av _
theorem aW2 {H:Hp}:∀ {r:Rw}{x:Str},cJ H r->r.sets=some x->∃ us,H r.p=some (.tup (.str r.w :: .str x :: us))
 |.thr p w y vs am,x,h,e=>by cases e;exact ⟨vs,h.1⟩
 |.lt p y t,x,h,e=>by cases e;exact ⟨_,h.1⟩
 |.tell _ _,_,_,e=>by cases e
 |.when _ _ _ _ _ _,_,_,e=>by cases e
 |.times _ _ _ _,_,_,e=>by cases e
theorem aS8 {K:W.Frag}{H H':Hp}{a:Addr}{xs:List V}(h:bI K H a xs) (s:bB H H'):bI K H' a xs:=by
 rcases h with (h | ⟨u,h⟩) | h
 ·exact .inl (.inl (s _ _ h))
 ·exact .inl (.inr ⟨u,s _ _ h⟩)
 ·exact .inr h
def rgF (s:Stp):Option Ft:=if s.1="row" then (if s.2.1.ams then some ((s.2.2:Int),0) else none) else none
theorem pO {r:Rw}{k:Nat}:rgF (("row": Str),r,k)=if r.ams then some ((k:Int),0) else none:=by unfold rgF;rw [bc rfl]
theorem uO {s:Stp}(h:¬ s.1="row"):rgF s=none:=by unfold rgF;rw [ar h]
theorem nF {α β: Type}{f:α->Option β}{a:α}{l:List α}(h:f a=none):(a :: l).filterMap f=l.filterMap f:=jj h
mutual
theorem aS3:∀ (r:Rw) (k:Nat),(dE k r).filterMap rgF=rf k r
 |.thr p w x vs am,k=>by
  simp only [dE,rf,oU,List.filterMap_cons,List.filterMap_nil,pO,Rw.ams]
  cases am <;> rfl
 |.lt p x t,k=>by simp only [dE,rf,List.filterMap_cons,List.filterMap_nil,pO,Rw.ams];rfl
 |.tell p t,k=>by simp only [dE,rf,List.filterMap_cons,List.filterMap_nil,pO,Rw.ams];rfl
 |.when p pa pb t a b,k=>by
  simp only [dE];rw [nF (by rw [pO];rfl),fm,fm,fm,kL a,kL b,nF (uO yK),nF (uO nW)];simp only [List.filterMap_nil,List.append_nil,rf]
 |.times p pb n b,k=>by
  simp only [dE];rw [nF (by rw [pO];rfl),fm,kL b,nF (uO nW)];simp only [List.filterMap_nil,List.append_nil,rf]
theorem kL:∀ (rs:List Rw) (k:Nat),(cR k rs).filterMap rgF=wL k rs
 |[],k=>by simp only [cR,wL,List.filterMap_nil]
 |r :: rs,k=>by simp only [cR,wL,List.filterMap_append,aS3 r,kL rs]
end
theorem aU5 {α β: Type}{f:α->Option β}{l:List α}{i:Nat}{a:α}(h:l[i]?=some a):(l.take (i+1)).filterMap f=(l.take i).filterMap f++(f a).toList:=by
 rw [bK h,fm]
 cases e:f a <;> simp [List.filterMap_cons,e]
theorem bQ5:rH 0="range":=by unfold rH;rw [bc rfl]
theorem bO3:rH 1="unknown":=by unfold rH;rw [ar (by decide),bc rfl]
theorem bU3:rH 2="tells":=by unfold rH;rw [ar (by decide),ar (by decide)]
theorem bI8 (s:Stp) (st st':USt) (h:iC s st=some st'):st'.1.length<=st.1.length+1:=by
 unfold iC at h
 split at h
 ·cases h
  unfold rJ mQ
  split <;> simp
 ·split at h
  ·unfold zG at h
   split at h
   ·cases h;simp
   ·cases h
  ·split at h
   ·unfold aG3 at h
    split at h
    ·cases h;simp
    ·cases h
   ·cases h;(exact df _)
theorem yX {ns kn:List Str}:(ns.map fun y=>decide (y∈kn)).all id=true↔∀ y∈ns,y∈kn:=by simp
mutual
theorem aS4:∀ (r:Rw) (k:Nat),kB r->∀ s∈dE k r,kB s.2.1
 |.thr p w x vs am,k,h,s,hs=>by simp only [dE,List.mem_singleton] at hs;rw [hs];exact h
 |.lt p x t,k,h,s,hs=>by simp only [dE,List.mem_singleton] at hs;rw [hs];exact h
 |.tell p t,k,h,s,hs=>by simp only [dE,List.mem_singleton] at hs;rw [hs];exact h
 |.when p pa pb t a b,k,h,s,hs=>by
  simp only [dE,List.mem_cons,List.mem_append,List.mem_singleton,List.not_mem_nil,or_false] at hs;rcases hs with e | ((e | e) | e) | e
  ·rw [e];exact h
  ·exact kK a _ h.1 s e
  ·rw [e];exact h
  ·exact kK b _ h.2 s e
  ·rw [e];exact h
 |.times p pb n b,k,h,s,hs=>by
  simp only [dE,List.mem_cons,List.mem_append,List.mem_singleton,List.not_mem_nil,or_false] at hs;rcases hs with e | e | e
  ·rw [e];exact h
  ·exact kK b _ h.2.2 s e
  ·rw [e];exact h
theorem kK:∀ (rs:List Rw) (k:Nat),dQ rs->∀ s∈cR k rs,kB s.2.1
 |[],k,h,s,hs=>by simp only [cR] at hs;cases hs
 |r :: rs,k,h,s,hs=>by
  simp only [cR,List.mem_append] at hs;rcases hs with e | e
  ·exact aS4 r k h.1 s e
  ·exact kK rs _ h.2 s e
end
theorem zL {w:Str}(h:w∈dF):¬ (V.str w=V.str "tell"):=fun z=>aF1 h (by injection z)
theorem wWE:¬ (V.str "when"=V.str "tell"):=by decide +kernel
theorem wTE:¬ (V.str "times"=V.str "tell"):=by decide +kernel
theorem wLE:¬ (V.str "let"=V.str "tell"):=by decide +kernel
theorem bQ8 {r:Rw}(h:WdR r):decide (V.str r.w=V.str "tell")=qL r:=by
 cases r with
 |thr p w x vs am=>exact au (zL (show w∈dF by simpa only [WdR] using h))
 |lt p x t=>exact au wLE
 |tell p t=>exact af rfl
 |when p pa pb t a b=>exact au wWE
 |times p pb n b=>exact au wTE
theorem bH4 (s:Stp) (st st':TSt) (h:gM s st=some st'):st'.1.length<=st.1.length+1:=by
 unfold gM at h
 split at h
 ·cases h;simp
 ·split at h
  ·unfold aQ1 at h
   split at h
   ·cases h;simp
   ·cases h
  ·split at h
   ·unfold vO at h
    split at h
    ·split at h
     ·cases h;simp
     ·cases h
     ·cases h
    ·split at h
     ·cases h
      split <;> simp
     ·cases h
     ·cases h
     ·cases h
    all_goals cases h
   ·cases h;(exact df _)
def bG5 (n:Nat):Sp:=fun vs H Q _=>∃ t:Tm,vs=[.ref t.p]/\jT H t/\t.size<=900/\t.deep<=n/\∀ (r:Addr) (H':Hp),bB H H'->H' r=some (.lst (t.names.map V.str))->Q (.ref r) H'
def aA7:Nat->Sp
 |0=>fun _ _ _ _=>False
 |n+1=>bG5 (n+1)
theorem Tm.deep_pos:∀ t:Tm,1<=t.deep
 |.num _ _=>ai _
 |.nam _ _=>ai _
 |.op _ _ _ _=>by unfold Tm.deep;(exact oqI)
def bE6 (n:Nat):Sp:=fun vs H Q _=>∃ (p:Addr) (rs:List Rw),vs=[.ref p]/\H p=some (.tup (bG rs))/\aX H rs/\dQ rs/\aP rs<=4000/\dI rs+1<=n/\∀ H',bB H H'->Q (.int (cW rs)) H'
def aB2:Nat->Sp
 |0=>fun _ _ _ _=>False
 |n+1=>bE6 (n+1)
theorem fW:∀ {rs:List Rw}{r:Rw},r∈rs->r.dp<=dI rs
 |[],_,h=>absurd h dj
 |q :: rs,r,h=>by
  simp only [dI];rcases cq.mp h with e | e
  ·rw [e];lia
  ·have:=fW e;lia
theorem dQ.mem:∀ {rs:List Rw}{r:Rw},dQ rs->r∈rs->kB r
 |[],_,_,h=>absurd h dj
 |q :: rs,r,t,h=>by
  rcases cq.mp h with e | e
  ·rw [e];exact t.1
  ·exact dQ.mem t.2 e
theorem aP6 {rs:List Rw}{i:Nat}{r:Rw}(h:rs[i]?=some r):cW (rs.take (i+1))=cW (rs.take i)+kU r:=by
 rw [bK h,iE];simp only [cW,Int.add_zero]
theorem pN (xs:List Int) (x:Int):(xs++[x]).sum=xs.sum+x:=by simp
end Mine
namespace L2
open PySem PySem.Spec PyProof.Rows
theorem dO {α: Type}{n:Nat}{us:List α}(h:us.length=n+1):∃ u r,us=u :: r/\r.length=n:=by
 cases us with
 |nil=>cases h
 |cons u r=>exact ⟨u,r,rfl,Nat.succ.inj h⟩
section
variable {K:W.Frag}{x qual:Str}{st:Stmt}{f:Addr}{fd:FuncData}{p1 p2 p3 p4 p5:Str}
theorem oP.b1 (F:oP K x qual st f fd) (h:∀ (kV doc pm:Value) (an:Option Addr) (cdv ct u1:Value),bindArgs (W.fnOf x qual (dH st) (cH st) (aZ st) .none kV doc pm an cdv ct) ⟨[u1],[]⟩=pure [(p1,u1)]):gQ K fd [p1] []:=by
 refine F.binds fun kV doc pm an cdv ct us h0=>?_
 obtain ⟨u1,r1,rfl,h1⟩:=dO (n:=0) h0
 cases ic.mp h1
 exact h kV doc pm an cdv ct u1
theorem oP.b2 (F:oP K x qual st f fd) (h:∀ (kV doc pm:Value) (an:Option Addr) (cdv ct u1 u2:Value),bindArgs (W.fnOf x qual (dH st) (cH st) (aZ st) .none kV doc pm an cdv ct) ⟨[u1,u2],[]⟩=pure [(p1,u1),(p2,u2)]):gQ K fd [p1,p2] []:=by
 refine F.binds fun kV doc pm an cdv ct us h0=>?_
 obtain ⟨u1,r1,rfl,h1⟩:=dO (n:=1) h0;obtain ⟨u2,r2,rfl,h2⟩:=dO (n:=0) h1
 cases ic.mp h2
 exact h kV doc pm an cdv ct u1 u2
theorem oP.b3 (F:oP K x qual st f fd) (h:∀ (kV doc pm:Value) (an:Option Addr) (cdv ct u1 u2 u3:Value),bindArgs (W.fnOf x qual (dH st) (cH st) (aZ st) .none kV doc pm an cdv ct) ⟨[u1,u2,u3],[]⟩=pure [(p1,u1),(p2,u2),(p3,u3)]):gQ K fd [p1,p2,p3] []:=by
 refine F.binds fun kV doc pm an cdv ct us h0=>?_
 obtain ⟨u1,r1,rfl,h1⟩:=dO (n:=2) h0;obtain ⟨u2,r2,rfl,h2⟩:=dO (n:=1) h1;obtain ⟨u3,r3,rfl,h3⟩:=dO (n:=0) h2
 cases ic.mp h3
 exact h kV doc pm an cdv ct u1 u2 u3
theorem oP.b4 (F:oP K x qual st f fd) (h:∀ (kV doc pm:Value) (an:Option Addr) (cdv ct u1 u2 u3 u4:Value),bindArgs (W.fnOf x qual (dH st) (cH st) (aZ st) .none kV doc pm an cdv ct) ⟨[u1,u2,u3,u4],[]⟩=pure [(p1,u1),(p2,u2),(p3,u3),(p4,u4)]):gQ K fd [p1,p2,p3,p4] []:=by
 refine F.binds fun kV doc pm an cdv ct us h0=>?_
 obtain ⟨u1,r1,rfl,h1⟩:=dO (n:=3) h0;obtain ⟨u2,r2,rfl,h2⟩:=dO (n:=2) h1;obtain ⟨u3,r3,rfl,h3⟩:=dO (n:=1) h2;obtain ⟨u4,r4,rfl,h4⟩:=dO (n:=0) h3
 cases ic.mp h4
 exact h kV doc pm an cdv ct u1 u2 u3 u4
theorem oP.b5 (F:oP K x qual st f fd) (h:∀ (kV doc pm:Value) (an:Option Addr) (cdv ct u1 u2 u3 u4 u5:Value),bindArgs (W.fnOf x qual (dH st) (cH st) (aZ st) .none kV doc pm an cdv ct) ⟨[u1,u2,u3,u4,u5],[]⟩=pure [(p1,u1),(p2,u2),(p3,u3),(p4,u4),(p5,u5)]):gQ K fd [p1,p2,p3,p4,p5] []:=by
 refine F.binds fun kV doc pm an cdv ct us h0=>?_
 obtain ⟨u1,r1,rfl,h1⟩:=dO (n:=4) h0;obtain ⟨u2,r2,rfl,h2⟩:=dO (n:=3) h1;obtain ⟨u3,r3,rfl,h3⟩:=dO (n:=2) h2;obtain ⟨u4,r4,rfl,h4⟩:=dO (n:=1) h3;obtain ⟨u5,r5,rfl,h5⟩:=dO (n:=0) h4
 cases ic.mp h5
 exact h kV doc pm an cdv ct u1 u2 u3 u4 u5
end
section
variable {K:W.Frag}{x qual:Str}{st:Stmt}{f:Addr}{fd:FuncData}{p1 p2 p3 p4 p5 p6:Str}
end
section
variable {P:Program}{w:World}{K:W.Frag}{mg:Str->Option Value}{base:Heap}
def Cl (P:Program) (w:World) (K:W.Frag) (mg:Str->Option Value) (base:Heap) (n:Nat) (sp:Sp) (x:Str):Prop:=∃ f d ps,jP P w K mg base wR n f d ps sp/\gQ K d ps []/\W.keepIn K (.ref f)=true/\mg x=some (.ref f)
def gN (P:Program) (w:World) (K:W.Frag) (mg:Str->Option Value) (base:Heap) (x q:Str) (st:Stmt) (n:Nat) (ps:List Str) (sp:Sp):Prop:=∀ {f:Addr}{d:FuncData},oP K x q st f d->jP P w K mg base wR n f d ps sp
theorem iV {x q:Str}{st:Stmt}{k:Nat}{ps:List Str}{sp:Sp}(N:List Str)
  (hb:∀ {f:Addr}{cdv:Value}{A:Around}{outer:List Env}{s:Shared}{vs:List V}{E:XK}(H:Hp) (Q:VK),N.Nodup->eE k (A.deeper (envOfC q (aZ st) s.heap.objs.size f cdv))->sp vs H Q E ->
   ∃ t,oN (gO wR P w K mg base N q (aZ st) f cdv A outer s H E).nox (cH st) t/\t { nx:=fun _ H'=>Q .non H',rt:=Q } (iJ N vs) H)
  (len:autoParam (∀ vs H Q E,sp vs H Q E->vs.length=ps.length) Rq7._auto_1)
  (S:autoParam (gG N ps (aZ st)) Rq8._auto_1):gN P w K mg base x q st (k+1) ps sp :=
 fun F=>F.ok S len fun _ _ _ _ H _ Q _ hr h=>hb H Q S.nd hr h
def vZ (K:W.Frag) (x q:Str) (st:Stmt) (f:Addr):Prop:=∃ (oc:Value) (od:Option Addr) (kV dc pm:Value) (an:Option Addr) (cd ct:Value) (sl:Array (Option Value)),K.lookup f=some ⟨oc,od,.func (W.fnOf x q (dH st) (cH st) (aZ st) .none kV dc pm an cd ct),sl⟩/\W.codeIn K cd q=true/\W.keepIn K (.ref f)=true
def TopAt (K:W.Frag) (x:Str) (st:Stmt):Prop:=∃ f,W.nsIn K mainGlobals x=some (some (.ref f))/\vZ K x x st f
theorem vZ.of {x q:Str}{st:Stmt}{f:Addr}{oc:Value}{od:Option Addr}{kV dc pm:Value}{an:Option Addr}{cd ct:Value}{sl:Array (Option Value)}(l:K.lookup f=some ⟨oc,od,.func (W.fnOf x q (dH st) (cH st) (aZ st) .none kV dc pm an cd ct),sl⟩) (c:W.codeIn K cd q=true) (k:W.keepIn K (.ref f)=true):vZ K x q st f:=⟨_,_,_,_,_,_,_,_,_,l,c,k⟩
theorem TopAt.of {x:Str}{st:Stmt}{f:Addr}{oc:Value}{od:Option Addr}{kV dc pm:Value}{an:Option Addr}{cd ct:Value}{sl:Array (Option Value)}(a:W.nsIn K mainGlobals x=some (some (.ref f))) (l:K.lookup f=some ⟨oc,od,.func (W.fnOf x x (dH st) (cH st) (aZ st) .none kV dc pm an cd ct),sl⟩) (c:W.codeIn K cd x=true) (k:W.keepIn K (.ref f)=true):TopAt K x st:=⟨_,a,.of l c k⟩
theorem vZ.fn {x q:Str}{st:Stmt}{f:Addr}:vZ K x q st f->∃ d,oP K x q st f d
 |⟨_,_,_,_,_,_,_,_,_,l,c,k⟩=>⟨_,yF l c k⟩
structure Zx (P:Program) (w:World) (K:W.Frag) (mg:Str->Option Value) (base:Heap):Prop where
 ns:∀ x u,W.nsIn K mainGlobals x=some (some u)->mg x=some u
 no:∀ x,W.nsIn K mainGlobals x=some none->mg x=none
theorem Zx.of {h:Heap}(X:K.In h) (G:h.Ns mainGlobals mg):Zx P w K mg base:=⟨fun _ _ e=>W.mg_of X G e,fun _ e=>W.mg_none_of X G e⟩
variable {x p1 p2 p3 p4 p5 p6:Str}{st:Stmt}{n:Nat}{sp:Sp}
theorem Zx.cl (Z:Zx P w K mg base) (t:TopAt K x st) {ps:List Str}(ok:gN P w K mg base x x st n ps sp) (b:∀ {f d},oP K x x st f d->gQ K d ps []):Cl P w K mg base n sp x :=by
 obtain ⟨_,a,t⟩:=t;obtain ⟨_,F⟩:=t.fn;exact ⟨_,_,_,ok F,b F,F.kp,Z.ns _ _ a⟩
theorem Zx.c1 (Z:Zx P w K mg base) (t:TopAt K x st) (ok:gN P w K mg base x x st n [p1] sp) (h:autoParam (∀ (kV doc pm:Value) (an:Option Addr) (cdv ct u1:Value),bindArgs (W.fnOf x x (dH st) (cH st) (aZ st) .none kV doc pm an cdv ct) ⟨[u1],[]⟩=pure [(p1,u1)]) Rq4._auto_1):Cl P w K mg base n sp x:=Z.cl t ok fun F=>F.b1 h
theorem Zx.c2 (Z:Zx P w K mg base) (t:TopAt K x st) (ok:gN P w K mg base x x st n [p1,p2] sp) (h:autoParam (∀ (kV doc pm:Value) (an:Option Addr) (cdv ct u1 u2:Value),bindArgs (W.fnOf x x (dH st) (cH st) (aZ st) .none kV doc pm an cdv ct) ⟨[u1,u2],[]⟩=pure [(p1,u1),(p2,u2)]) Rq4._auto_1):Cl P w K mg base n sp x:=Z.cl t ok fun F=>F.b2 h
theorem Zx.c3 (Z:Zx P w K mg base) (t:TopAt K x st) (ok:gN P w K mg base x x st n [p1,p2,p3] sp) (h:autoParam (∀ (kV doc pm:Value) (an:Option Addr) (cdv ct u1 u2 u3:Value),bindArgs (W.fnOf x x (dH st) (cH st) (aZ st) .none kV doc pm an cdv ct) ⟨[u1,u2,u3],[]⟩=pure [(p1,u1),(p2,u2),(p3,u3)]) Rq4._auto_1):Cl P w K mg base n sp x:=Z.cl t ok fun F=>F.b3 h
theorem Zx.c4 (Z:Zx P w K mg base) (t:TopAt K x st) (ok:gN P w K mg base x x st n [p1,p2,p3,p4] sp) (h:autoParam (∀ (kV doc pm:Value) (an:Option Addr) (cdv ct u1 u2 u3 u4:Value),bindArgs (W.fnOf x x (dH st) (cH st) (aZ st) .none kV doc pm an cdv ct) ⟨[u1,u2,u3,u4],[]⟩=pure [(p1,u1),(p2,u2),(p3,u3),(p4,u4)]) Rq4._auto_1):Cl P w K mg base n sp x:=Z.cl t ok fun F=>F.b4 h
theorem Zx.c5 (Z:Zx P w K mg base) (t:TopAt K x st) (ok:gN P w K mg base x x st n [p1,p2,p3,p4,p5] sp) (h:autoParam (∀ (kV doc pm:Value) (an:Option Addr) (cdv ct u1 u2 u3 u4 u5:Value),bindArgs (W.fnOf x x (dH st) (cH st) (aZ st) .none kV doc pm an cdv ct) ⟨[u1,u2,u3,u4,u5],[]⟩=pure [(p1,u1),(p2,u2),(p3,u3),(p4,u4),(p5,u5)]) Rq4._auto_1):Cl P w K mg base n sp x:=Z.cl t ok fun F=>F.b5 h
theorem okn {q:Str}{k:Nat}{ps:List Str}:gN P w K mg base x q st k ps (fun _ _ _ _=>False):=fun _=>⟨fun _ _ _ _ h=>h.elim,fun _ _ _ _ _ _ _ _ _ _ _ _ _ h=>h.elim⟩
end
section
variable {X:Cx}{x:Str}{p pos pos':Pos}{e:Expr}{es:List Expr}{t:TA}{te:TE}
theorem bW {k:Nat}{sp:Sp}(C:Cl X.prog X.w X.K X.mg X.base k sp x) {n:Nat}(hr:eE n X.A) (ha:PA X (e :: es) t) (hn:autoParam (k<=n) Rq10._auto_1) (hg:autoParam (Gl X x) Rq0._auto_1) (hdb:autoParam ((x == ("__debug__": Str))=false) Rq1._auto_1) (he:autoParam (starEach (e :: es) X.env=(false,eval e X.env) :: starEach es X.env) Rq0._auto_1)
  (hpl:autoParam ((backTo pos (starEach es X.env)).any (·.1)=false) Rq0._auto_1):PE X (.Call (.Name x p) (e :: es) [] pos) (aI6 sp [] E0 t):=by obtain ⟨_,_,_,g,b,k,m⟩:=C;exact zO g (hr.mono hn) hg m k b .nil aW5 ha hdb he hpl
theorem eY (i:Nat) {rest:List Stmt}{u:TS}(hN:X.N.Nodup) (he:PE X e te) (h2:oN X rest u) (hi:autoParam (X.N[i]?=some x) Rq0._auto_1) (hx:autoParam (Loc X.env.scope x) Rq9._auto_1) (hs:autoParam (swapsWith e (some (.Name x pos')) pos.line X.env=pure false) Rq0._auto_1)
  (hf:autoParam (X.fn x=true\/X.env.scope.names.lookup x=some .local) Rq3._auto_1):oN X (.Assign [.Name x pos'] e pos :: rest) (bH7 (aL3 te (tE i)) u):=aE (jK hN hi hx he hs hf) h2
theorem kZ (i:Nat) (hN:X.N.Nodup) (he:PE X e te) (hi:autoParam (X.N[i]?=some x) Rq0._auto_1) (hx:autoParam (Loc X.env.scope x) Rq9._auto_1) (hs:autoParam (swapsWith e (some (.Name x pos')) pos.line X.env=pure false) Rq0._auto_1)
  (hf:autoParam (X.fn x=true\/X.env.scope.names.lookup x=some .local) Rq3._auto_1):PS X (.Assign [.Name x pos'] e pos) (aL3 te (tE i)):=jK hN hi hx he hs hf
theorem eO (i:Nat) (hN:X.N.Nodup:=by dsimp only [cV];decide +kernel) (hi:autoParam (X.N[i]?=some x) Rq0._auto_1) (hx:autoParam (Loc X.env.scope x) Rq9._auto_1) (hf:autoParam (X.fn x=true\/X.env.scope.names.lookup x=some .local) Rq3._auto_1):PG X (.Name x pos) (tE i):=pC hN hi hx hf
theorem pfr {tg iter:Expr}{body:List Stmt}{wi:TI}{g:TG}{tb:TS}(hi:PI X tg iter wi) (hg:PG X tg g) (hb:oN X body tb) (hp:PassesOwn (model X.prog X.w) X.A X.env X.xe:=by exact ll) (hc:autoParam (X.calm=true) Rq0._auto_1)
  (hs:autoParam (∀ x,foldedSetIterable iter X.env x=pure x) Rq6._auto_1):PS X (.For tg iter body [] pos) (bP0 wi g tb):=aH6 hp hc hi hg hb hs
variable {id T:String}{r:List V->Hp->VK->Prop}
theorem iK (hc:eM X (.builtin id) r) (hm:X.mg x=none) (hv:bootBuiltins x=some (.builtin id)) (ha:PA X (e :: es) t) (hg:autoParam (Gl X x) Rq0._auto_1) (hn:autoParam (x≠"__name__") Rq1._auto_1) (hdb:autoParam ((x == ("__debug__": Str))=false) Rq1._auto_1)
  (he:autoParam (starEach (e :: es) X.env=(false,eval e X.env) :: starEach es X.env) Rq0._auto_1) (hpl:autoParam ((backTo pos (starEach es X.env)).any (·.1)=false) Rq0._auto_1):PE X (.Call (.Name x p) (e :: es) [] pos) (tCB r t):=qG hc hg hm hv ha hn hdb he hpl
theorem xD (hc:eM X (.type T) r) (hm:X.mg x=none) (hv:bootBuiltins x=some (.type T)) (ha:PA X (e :: es) t) (hg:autoParam (Gl X x) Rq0._auto_1) (hn:autoParam (x≠"__name__") Rq1._auto_1) (hdb:autoParam ((x == ("__debug__": Str))=false) Rq1._auto_1)
  (he:autoParam (starEach (e :: es) X.env=(false,eval e X.env) :: starEach es X.env) Rq0._auto_1) (hpl:autoParam ((backTo pos (starEach es X.env)).any (·.1)=false) Rq0._auto_1):PE X (.Call (.Name x p) (e :: es) [] pos) (tCB r t):=aE9 hc hg hm hv ha hn hdb he hpl
variable {a b:Expr}{ta tb:TE}
theorem bV {r:R2}(hr:IxR X r) (ha:PE X a ta) (hb:PE X b tb) (hs:autoParam (aA0 b) Rq12._auto_1):PE X (.Subscript a b pos) (tOp r ta tb):=bU0 hr ha hb hs
theorem dM {op:CmpOp}{r:R2}(ho:jX X (compareOp op) r) (ha:PE X a ta) (hb:PE X b tb) (hm:autoParam (behindInMarks op b=false) Rq13._auto_1):PT X (.Compare a [op] [b] pos) (aG8 (tOp r ta tb)):=mV ho ha hb hm
theorem zU {op:CmpOp}{r:R2}(ho:jX X (compareOp op) r) (ha:PE X a ta) (hb:PE X b tb) (hm:autoParam (behindInMarks op b=false) Rq13._auto_1):PE X (.Compare a [op] [b] pos) (tOp r ta tb):=aV1 ho ha hb hm
theorem pdg (hu:X.A.units+1 < cLine) (ho:PE X a ta) (hi:PE X b tb) (hs:autoParam (bC7 b) Rq12._auto_1):PE X (.Subscript a b pos) (aW7 ta tb):=iL hu ho hi hs
theorem pdp {tv:TE}(hu:X.A.units+1 < cLine) (ho:PE X a ta) (hi:PE X b tb) (hv:PE X e tv) (hs:autoParam (swapsWith e (some (.Subscript a b pos')) pos.line X.env=pure false) Rq0._auto_1):PS X (.Assign [.Subscript a b pos'] e pos) (aX3 ta tb tv):=pL hu ho hi hv hs
theorem aN (ha:PE X a ta) (h:autoParam (starEach [a] X.env=[(false,eval a X.env)]) Rq0._auto_1):PA X [a] (aY2 ta tNil):=aB ha cF h
theorem pgl {v:Addr}(hm:X.mg x=some (.ref v)) (hg:autoParam (Gl X x) Rq0._auto_1) (hd:autoParam ((x == ("__debug__": Str))=false) Rq1._auto_1):PE X (.Name x pos) (tC (.ref v)):=gT hg hm rfl hd
end
theorem rS {K:PySem.W.Frag}{a:Addr}{xs:List V}{g:TG}{tb:TS}{D:fY}{σ: St}{H:Hp}(Pv:Nat->St->Hp->Prop) (h0:Pv 0 σ H) (hl:∀ i σ H,i<=xs.length->Pv i σ H->bI K H a xs)
  (hs:∀ (D':fY) (N:St->Hp->Prop),∀ i,(∀ σ H,Pv (i+1) σ H->N σ H)->∀ x σ H,xs[i]?=some x->Pv i σ H->g x σ H fun σ2 H2=>tb { D' with nx:=N,ct:=N,bk:=D'.nx } σ2 H2) (hd:∀ σ H,Pv xs.length σ H->D.nx σ H) :
  ∃ W:Nat->Nat->St->Hp->Prop,(∃ m,W 0 m σ H)/\∀ i m σ H,W i m σ H ->
   ((Itl K a).stop i H/\D.nx σ H)\/((Itl K a).go i H/\∃ N:St->Hp->Prop,(∀ σ' H',N σ' H'->∃ m',m' < m/\W (i+1) m' σ' H')/\∀ x H',(Itl K a).yld i H x H'->g x σ H' fun σ2 H2=>tb { D with nx:=N,ct:=N,bk:=D.nx } σ2 H2):=aC6 Pv h0 hl (fun D' i x σ H hi p=>hs D' (Pv (i+1)) i (fun _ _ z=>z) x σ H hi p) hd
theorem aP3 {K:PySem.W.Frag}{a:Addr}{xs:List V}{g:TG}{tb:TS}{D:fY}{σ: St}{H:Hp}(Pv:Nat->St->Hp->Prop) (h0:Pv 0 σ H) (hl:∀ i σ H,i<=xs.length->Pv i σ H->aQ K H a xs)
  (hs:∀ (D':fY) (N:St->Hp->Prop),∀ i,(∀ σ H,Pv (i+1) σ H->N σ H)->∀ x σ H,xs[i]?=some x->Pv i σ H->g x σ H fun σ2 H2=>tb { D' with nx:=N,ct:=N,bk:=D'.nx } σ2 H2) (hd:∀ σ H,Pv xs.length σ H->D.nx σ H) :
  ∃ W:Nat->Nat->St->Hp->Prop,(∃ m,W 0 m σ H)/\∀ i m σ H,W i m σ H ->
   ((Itt K a).stop i H/\D.nx σ H)\/((Itt K a).go i H/\∃ N:St->Hp->Prop,(∀ σ' H',N σ' H'->∃ m',m' < m/\W (i+1) m' σ' H')/\∀ x H',(Itt K a).yld i H x H'->g x σ H' fun σ2 H2=>tb { D with nx:=N,ct:=N,bk:=D.nx } σ2 H2):=vJ Pv h0 hl (fun D' i x σ H hi p=>hs D' (Pv (i+1)) i (fun _ _ z=>z) x σ H hi p) hd
theorem rF {lo:Int}{n:Nat}{g:TG}{tb:TS}{D:fY}{σ: St}{H:Hp}(Pv:Nat->St->Hp->Prop) (h0:Pv 0 σ H)
  (hs:∀ (D':fY) (N:St->Hp->Prop),∀ i,(∀ σ H,Pv (i+1) σ H->N σ H)->∀ σ H,i < n->Pv i σ H->g (.int (lo+i)) σ H fun σ2 H2=>tb { D' with nx:=N,ct:=N,bk:=D'.nx } σ2 H2) (hd:∀ σ H,Pv n σ H->D.nx σ H) :
  ∃ W:Nat->Nat->St->Hp->Prop,(∃ m,W 0 m σ H)/\∀ i m σ H,W i m σ H ->
   ((Itr lo n).stop i H/\D.nx σ H)\/((Itr lo n).go i H/\∃ N:St->Hp->Prop,(∀ σ' H',N σ' H'->∃ m',m' < m/\W (i+1) m' σ' H')/\∀ x H',(Itr lo n).yld i H x H'->g x σ H' fun σ2 H2=>tb { D with nx:=N,ct:=N,bk:=D.nx } σ2 H2):=mF Pv h0 (fun D' i σ H hi p=>hs D' (Pv (i+1)) i (fun _ _ z=>z) σ H hi p) hd
abbrev bL8 (rest:List Value):Obj:={ cls:= .type "tuple",data:= .seq rest.toArray }
abbrev bS9 (C t:Addr):Obj:={ cls:= .ref C,data:= .fields #[.ref t,.none,.none,.none,.bool false,.none] }
abbrev mW (h:Heap) (C:Addr) (rest:List Value):Heap:=(h.push (bL8 rest)).push (bS9 C h.objs.size)
section
variable {prog:Program}{w:World}{A:Around}{E:Value->Shared->Prop}{h:Heap}{g:Array GenState}{d:Drawn}{t:Nat}{os:OsState}
variable {nm q:Str}{C N fI:Addr}{bs bm bmB bmN:List Value}{hdct:Bool}{sn:List Str}{sub:List Value}{ab:Bool}{col:Option Bool}{dd:Option Addr}{k0 k1 k2 k3 k5:Option Value}{B Bn newId nid inN initId:String}
theorem jC {b:Addr}{o:Obj}{rest:List Value}(e:h.get? b=some o):(mW h C rest).get? b=some o:=ah _ (ah _ e)
theorem sV {rest:List Value}:(mW h C rest).get? (h.objs.size+1)=some (bS9 C h.objs.size):=by heap_get
theorem vN (Fn:ExcBaseFacts Bn newId inN bmN) (hBn:bmB.contains (.type Bn)=true) (F:ExcBaseFacts B nid initId bmB) (T:OwnTail h bmB bm) {mN:Str->Option Value}{rest:List Value}{oI:Obj}{Q:Fin->Shared->Prop}
  (hC:h.get? C=some (excClassObj nm q C N bs bm hdct sn sub ab col dd k0 k1 k2 k3 k5 newId)) (hn:h.Ns N mN) (hi:mN "__init__"=some (.ref fI)) (ho:h.get? fI=some oI) (hf:oI.cls= .type "function") (hz:rest.length<=sizeLine)
  (k:wpAny (model prog w) A (call (.ref fI) (.ref (h.objs.size+1) :: rest)) (fun r s'=>r= .none/\Q (.done (.ret (.ref (h.objs.size+1)))) s') E ⟨mW h C rest,g,d,t,os⟩) :
  wpAny (model prog w) A (Builtin.«type.__call__» ⟨.ref C :: rest,[]⟩) Q E ⟨h,g,d,t,os⟩:=by
 repeat (first | with_reducible refine jv hC ?_ | with_reducible refine wpAny_madeBy_exc hC ?_ | wp_step)
 refine codeAny_call_builtin_code (qt _ Fn.quiet) (wpAny_check_new_subU Fn hBn T hC (codeAny_exc_new_subU Fn hBn F T hC ?_ hz));show wpAny _ _ _ _ _ ⟨mW h C rest,g,d,t,os⟩;have c2:=jC (C:=C) (rest:=rest) hC;have n2:(mW h C rest).Ns N mN:=let ⟨o,es,ep,e,r⟩:=hn;⟨o,es,ep,jC e,r⟩
 have T2:OwnTail (mW h C rest) bmB bm:=T.keeps fun b o e=>jC e
 have self:(Value.ref C :: bm).contains (.ref C)=true:=by simp
 have x2:=sV (h:=h) (C:=C) (rest:=rest);unfold isInstance
 repeat (first | with_reducible refine jv x2 ?_ | (with_reducible refine we c2 ?_;rw [self]) | wp_step)
 show wpAny _ _ (typeLookup (.ref C) _) _ _ _;refine wpAny_typeLookup_tail c2 n2 T2 F.mroIs F.init.lookup ?_;rw [hi];refine gw (ac ?_);unfold bindSpecial;refine ac (ot (T:="function") ⟨_,jC ho,hf⟩ ?_);rw [bc (by decide)];refine ao (ac (di k (fun r s' z=>?_) fun _ _ z=>z));obtain ⟨rfl,z⟩:=z
 wp_walk
 exact z
theorem bB2 (Fn:ExcBaseFacts Bn newId inN bmN) (hBn:bmB.contains (.type Bn)=true) (F:ExcBaseFacts B nid initId bmB) (T:OwnTail h bmB bm) {mN:Str->Option Value}{rest:List Value}{oI:Obj}{Q:Value->Shared->Prop}
  (hC:h.get? C=some (excClassObj nm q C N bs bm hdct sn sub ab col dd k0 k1 k2 k3 k5 newId)) (hn:h.Ns N mN) (hi:mN "__init__"=some (.ref fI)) (ho:h.get? fI=some oI) (hf:oI.cls= .type "function") (hz:rest.length<=sizeLine)
  (k:wpAny (model prog w) (A.under (.builtin "type.__call__" ⟨.ref C :: rest,[]⟩)) (call (.ref fI) (.ref (h.objs.size+1) :: rest)) (fun r s'=>r= .none/\Q (.ref (h.objs.size+1)) s') E ⟨mW h C rest,g,d,t,os⟩) :
  wpAny (model prog w) A (call (.ref C) rest) Q E ⟨h,g,d,t,os⟩:=by
 have a1:=tc_lookup;have a2:=tc_bind (.ref C);have ty:(⟨h,g,d,t,os⟩:Shared).TypeIs (.ref C) "type":=⟨_,hC,rfl⟩
 refine on (codeAny_of_tree ?_);show wpAny _ _ (callAny (.ref C) ⟨rest,[]⟩) _ _ _
 repeat (any_goals (first | assumption | with_reducible refine jv hC ?_ | wp_step))
 refine ⟨rfl,codeAny_call_builtin_at (qt _ (by decide +kernel)) entry_typeCall (wpAny_check_type_call_sub hC (vN Fn hBn F T hC hn hi ho hf hz k))⟩
end
def gI (K:W.Frag) (N:Addr):Bool:=match K.lookup N with
 |some ⟨_,_,.dict es _,_⟩=>es.toList.all fun e=>match e.key with | .str _ _=>true | _=>false
 |_=>false
theorem pV {K:W.Frag}{h:Heap}{N:Addr}(X:K.In h) (e:gI K N=true):∃ m,h.Ns N m:=by
 unfold gI at e
 split at e
 ·rename_i c dd es ep sl ho
  refine ⟨_,_,es,ep,X _ _ ho,rfl,fun x hx=>?_,fun _=>rfl⟩;have q:=si.mp e x (by simpa using hx)
  cases hk:x.key with
  |str n t=>exact ⟨n,t,rfl⟩
  |_=>rw [hk] at q;cases q
 ·cases e
def XN (a C:Addr):HO:= .ext fun h=>∃ o,h.get? a=some o/\o.cls= .ref C/\W.notCls o=true/\o.dict=none
def XD (a C dx:Addr):HO:= .ext fun h=>∃ o,h.get? a=some o/\o.cls= .ref C/\W.notCls o=true/\o.dict=some dx
def XM (a:Addr) (fs:List (Str×V)):HO:= .ext fun h=>∃ mA,h.Ns1 a mA/\(∀ f,kW (fs.lookup f) (mA f))/\PySem.Within mA (fs.map (·.1))
section
variable {P:Program}{w:World}{H:Hp}{h:Heap}{a C dx:Addr}{fs:List (Str×V)}
theorem bT8 (e:∃ o,h.get? a=some o/\o.cls= .ref C/\W.notCls o=true/\o.dict=some dx):cK P w H h a (XD a C dx) :=
 ⟨e,let ⟨o,q,_⟩:=e;⟨o,q⟩,(by rintro _ _ ⟨o,q,r⟩ k;exact ⟨o,k o q,r⟩)⟩
theorem aI8 (e:∃ mA,h.Ns1 a mA/\(∀ f,kW (fs.lookup f) (mA f))/\PySem.Within mA (fs.map (·.1))):cK P w H h a (XM a fs) :=
 ⟨e,let ⟨_,⟨o,_,_,q,_⟩,_⟩:=e;⟨o,q⟩,(by rintro _ _ ⟨mA,n,r⟩ k;exact ⟨mA,n.at k,r⟩)⟩
end
abbrev wZ (C D:Addr):List Value:=[.ref C,.ref D,.type "ValueError",.type "Exception",.type "BaseException",.type "object"]
structure dU (K:W.Frag) (C D:Addr):Prop where
 at_:∃ cd,W.clsIn K C=some cd/\cd.hasDict=true/\cd.mro=wZ C D
 sa:W.findIn K (.ref C) "__setattr__"=some (some (.builtin "object.__setattr__"))
 ga:W.findIn K (.ref C) "__getattribute__"=some (some (.builtin "BaseException.__getattribute__"))
 gh:W.findIn K (.ref C) "__getattr__"=some none
section
variable {prog:Program}{w:World}{A:Around}{E:Value->Shared->Prop}{R:Result->Shared->Prop}{s:Shared}{K:W.Frag}{x C D:Addr}{ox:Obj}{od:Option Obj}{name:Str}{v:Value}{tk:Tok}
theorem dU.sub {M:Model}{h:Heap}(W:dU K C D) (X:K.In h) {T:Value}{b:Bool}(e:(wZ C D).contains T=b):PySem.W.Looks M h (isSubtype (.ref C) T) b:=by
 obtain ⟨cd,hc,_,hm⟩:=W.at_;refine PySem.W.looks_mroIn X ?_;unfold PySem.W.mroIn;rw [hc,km,hm,ar (by simp),e]
theorem aX1 (X:K.In s.heap) (I:PySem.W.InstAt s.heap x ox C od) (W:dU K C D) (hn:PySem.W.findIn K (.ref C) name=some none)
  (h:∀ b,wpAny (model prog w) A.in1 (Builtin.ObjectAttr.storeInOwnDict (.ref x) (.ref C) (.str name tk) name v b)
   (fun fin s'=>match fin with | .done f=>R (.ok f) s' | .again c'=>c'.quiet=true/\codeAny (model prog w) A c' R s') (fun e s'=>R (.error e) s') s) :
  codeAny (model prog w) A (.call (.builtin "object.__setattr__") ⟨[.ref x,.str name tk,v],[]⟩) R s:=by
 have Z:=PySem.F.store_object;obtain ⟨cd,hc,_,hm⟩:=W.at_;have own:PySem.W.Looks (model prog w) s.heap (isInstance (.ref x) (.type "object")) true:=I.type.andThen (W.sub X (by simp));have mro:PySem.W.Looks (model prog w) s.heap (mroOf (.ref C)) (wZ C D):=by rw [<- hm];exact (qd X hc).andThen .now
 refine pd Z.slot.plain Z.entry (@PySem.W.check_slot (model prog w) _ _ s "object.__setattr__" "object" "__setattr__" (.ref x) [.str name tk,v] [] _ Z.kind Z.split own (Z.args (.ref x) (.str name tk) v) ?_);rw [PySem.W.osa_eq,refuse_eq];refine ac (ac (I.type.here (ac (mro.here ?_))));rw [refuseLoop_ref,refuseLoop_ref,PySem.F.store_ValueError.passes];exact ao (ac (I.type.here (ac ((ph X hn).here (ac (ao (h _)))))))
theorem bP4 {Q:Unit->Shared->Prop}(X:K.In s.heap) (hx:s.heap.get? x=some ox) (hc:ox.cls= .ref C) (hno:PySem.W.notCls ox=true) (hd:ox.dict=none) (W:dU K C D) (hn:PySem.W.findIn K (.ref C) name=some none)
  (h:∀ h',h'.Ns1 s.heap.objs.size (fun y=>if y=name then some v else none)->Heap.SameBut s.heap.objs.size ((s.heap.push PySem.W.emptyDict).update x fun o=>{ o with dict:=some s.heap.objs.size }) h'->Q () { s with heap:=h',toks:=s.toks+2 }) :
  wpAny (model prog w) A (setAttr (.ref x) name v) Q E s:=by
 have I:PySem.W.InstAt s.heap x ox C none:=⟨hx,hc,hno,by rw [hd];trivial⟩
 refine xw X I W.sa (aX1 (s:={ s with toks:=s.toks+1 }) X I W hn fun b=>?_);obtain ⟨cd,hcd,hdi,_⟩:=W.at_;obtain ⟨oc,odi,oda,osl⟩:=ox
 dsimp only at hc hd
 subst hc hd;have hx1:=ah PySem.W.emptyDict hx;have nd:((s.heap.push PySem.W.emptyDict).update x fun o=>{ o with dict:=some s.heap.objs.size }).Ns s.heap.objs.size (fun _=>none):=by
  have ne:x≠s.heap.objs.size:=cg (aq hx);exact ⟨PySem.W.emptyDict, #[],_,(dw _ _ _ _ ne.symm).trans (br _ rfl),rfl,fun e he=>absurd he (by simp),fun _=>rfl⟩
 refine ac (ao (ac (ac (qm hx (ac (wy (s:={ s with toks:=s.toks+1 }) (qd X hcd) ?_))))));rw [hdi];have hne:s.heap.objs.size≠x:=jh (aq hx);have go:wpAny (model prog w) A.in1 (do
   let d <- alloc { cls:= .type "dict",data:= .dict #[] }
   update x fun o=>{ cls:=o.cls,dict:=some d,data:=o.data,slots:=o.slots }
   dictMade (.ref C) x d) (fun a s'=>a=some s.heap.objs.size/\s'={ s with heap:=(s.heap.push PySem.W.emptyDict).update x fun o=>{ o with dict:=some s.heap.objs.size },toks:=s.toks+1 }) (fun _ _=>False) { s with toks:=s.toks+1 }:=by
  refine ac (wpAny_alloc ?_);refine ac (wpAny_update (s:={ s with heap:=s.heap.push PySem.W.emptyDict,toks:=s.toks+1 }) hx1 ?_);exact ao ⟨rfl,rfl⟩
 have fin:∀ (a:Option Addr) (s':Shared),a=some s.heap.objs.size/\s'={ s with heap:=(s.heap.push PySem.W.emptyDict).update x fun o=>{ o with dict:=some s.heap.objs.size },toks:=s.toks+1 } ->
   wpAny (model prog w) A.in1 (match a with | some d=>Builtin.ObjectAttr.storeInDict d (.str name s.toks) name v | none=>Builtin.ObjectAttr.noDictFor (.ref x) (.ref C) name b)
    (fun fin s'=>match fin with
     |.done f=>(match (Except.ok f:Result) with | .ok (.ret v)=>Q () s' | .ok a=>False | .error e=>E e s')
     |.again c'=>c'.quiet=true/\codeAny (model prog w) A c' (fun r s'=>match r with | .ok (.ret v)=>Q () s' | .ok a=>False | .error e=>E e s') s')
    (fun e s'=>match (Except.error e:Result) with | .ok (.ret v)=>Q () s' | .ok a=>False | .error e=>E e s') s':=by
  rintro a s' ⟨rfl,rfl⟩;refine ac (ao (ac ?_));refine wpAny_nsSet1 (xy nd) fun h' n1 sb=>?_
  obtain ⟨oD,eD,pD,hoD,dD,cD⟩:=n1.count (xz name v PySem.Within.nil);refine ac (yh hoD (by rw [dD];exact yi (cj cD (by rw [cu,jo,jf];(exact oqJ)))) ?_);exact ao (h h' n1 sb)
 cases oda <;> first | exact di go fin (fun _ _ z=>z.elim) | cases hno
theorem bT5 {Q:Unit->Shared->Prop}{dx:Addr}{mA:Str->Option Value}{ns:List Str}(X:K.In s.heap) (hx:s.heap.get? x=some ox) (hc:ox.cls= .ref C) (hno:PySem.W.notCls ox=true) (hd:ox.dict=some dx) (nd:s.heap.Ns1 dx mA) (W:dU K C D)
  (hn:PySem.W.findIn K (.ref C) name=some none) (hw:PySem.Within mA ns) (hsz:ns.length<=sizeLine)
  (h:∀ h',h'.Ns1 dx (fun y=>if y=name then some v else mA y)->Heap.SameBut dx s.heap h'->Q () { s with heap:=h',toks:=s.toks+2 }) :
  wpAny (model prog w) A (setAttr (.ref x) name v) Q E s:=by
 obtain ⟨od,ho,_⟩:=lH nd;have I:PySem.W.InstAt s.heap x ox C (some od):=⟨hx,hc,hno,by rw [hd];exact ho⟩
 refine xw X I W.sa (aX1 (s:={ s with toks:=s.toks+1 }) X I W hn fun b=>?_);obtain ⟨cd,hcd,hdi,_⟩:=W.at_;obtain ⟨oc,odi,oda,osl⟩:=ox
 dsimp only at hc hd
 subst hc hd;refine ac (ao (ac (ac (qm hx (ac (wy (s:={ s with toks:=s.toks+1 }) (qd X hcd) ?_))))));rw [hdi];refine ao (a:=some dx) (ac (ao (ac ?_)));refine wpAny_nsSet1 (s:={ s with toks:=s.toks+1 }) nd fun h' n1 sb=>?_
 obtain ⟨oD,eD,pD,hoD,dD,cD⟩:=n1.count (xz name v hw);refine ac (yh hoD (by rw [dD];exact yi (cj cD (by rw [cu];lia))) ?_);exact ao (h h' n1 sb)
theorem bU8 (X:K.In s.heap) (I:PySem.W.InstAt s.heap x ox C od) (W:dU K C D)
  (h:wpAny (model prog w) A.in1 (Builtin.«object.__getattribute__» ⟨[.ref x,.str name tk],[]⟩) (fun fin s'=>match fin with | .done f=>R (.ok f) s' | .again c'=>c'.quiet=true/\codeAny (model prog w) A c' R s') (fun e s'=>R (.error e) s') s) :
  codeAny (model prog w) A (.call (.builtin "BaseException.__getattribute__") ⟨[.ref x,.str name tk],[]⟩) R s:=by
 have base:PySem.W.Looks (model prog w) s.heap (isInstance (.ref x) (.type "BaseException")) true:=I.type.andThen (W.sub X (by simp));exact pd PySem.F.excAttr_ValueError.ga.plain PySem.F.entry_bexc_ga
  (@PySem.W.check_slot (model prog w) _ _ s "BaseException.__getattribute__" "BaseException" "__getattribute__" (.ref x) [.str name tk] [] _ (by decide +kernel) (by decide +kernel) base (PySem.F.args_bexc_ga _ _) h)
theorem xby {Q:Value->Shared->Prop}{fill expr:Bool}(X:K.In s.heap) (I:PySem.W.InstAt s.heap x ox C od) (W:dU K C D) (hh:PySem.W.handedIn v=true)
  (h:∀ P:Value->Shared->Prop,P v s->wpAny (model prog w) A.in1 (Builtin.«object.__getattribute__» ⟨[.ref x,.str name tk],[]⟩) (fun fin s'=>match fin with | .done (.ret u)=>P u s' | _=>False) (fun _ _=>False) s)
  (q:Q v s):wpAny (model prog w) A (getAttrBy (.ref x) (.str name tk) fill expr) Q E s:=by
 obtain ⟨hp,g,d,t,os⟩:=s;have L0:=I.type (M:=model prog w);have L1:=ph (M:=model prog w) X W.ga;have L2:=ph (M:=model prog w) X W.gh;unfold getAttrBy;refine gw (ac (L0.at (ac (L1.at ?_))));show wpAny _ _ (getAttrByItsOwn _ _ _ _ _ _) _ _ _;refine ac (L2.at (ac (vw (gw ?_))));have e0:callGetattribute (.ref x) (.str name tk) (.builtin "BaseException.__getattribute__") expr=boundAndCalled (.builtin "BaseException.__getattribute__") (.ref x) (.str name tk):=by cases expr <;> rfl
 rw [e0];unfold boundAndCalled;rw [PySem.F.excAttr_ValueError.ga.bind];refine ac (ao (on (bU8 X I W (di (h (fun u s'=>wpAny (model prog w) A (handedOut u) Q E s') ?_) (fun fin s' z=>?_) fun _ _ z=>z.elim))))
 ·rw [PySem.W.handedOut_of hh];exact ao q
 ·rcases fin with (_ | _ | _ | _) | _ <;> first | exact z | exact z.elim
theorem bV5 {Q:Value->Shared->Prop}{expr:Bool}(X:K.In s.heap) (I:PySem.W.InstAt s.heap x ox C od) (W:dU K C D) (hf:PySem.W.findObj K C od name=some (.value v)) (hh:PySem.W.handedIn v=true)
  (h:Q v { s with toks:=s.toks+1 }):wpAny (model prog w) A (getAttr (.ref x) name expr) Q E s:=by
 obtain ⟨hp,g,d,t,os⟩:=s;unfold getAttr;refine ac (wpAny_mkText (xby (s:=⟨hp,g,d,t+1,os⟩) X I W hh (fun P p=>?_) h));have L0:=I.type (M:=model prog w);have L3:=xa (M:=model prog w) X I hf;refine ac (ao (ac (ao (ac (L0.at (ac (L3.at ?_)))))));exact ao p
end
structure XIs (K:W.Frag) (C:Addr):Prop where
 at_:W.findIn K (.ref C) "__class__"=some (some (.builtin "object.__class__"))
 get:W.specialIn K (.builtin "object.__class__") "__get__"=some (some (.builtin "getset_descriptor.__get__"))
 tk:W.takesIn K (.builtin "object.__class__")=some true
section
variable {prog:Program}{w:World}{A:Around}{E:Value->Shared->Prop}{R:Result->Shared->Prop}{s:Shared}{K:W.Frag}{x C D:Addr}{ox:Obj}{od:Option Obj}{name:Str}{v:Value}{tk:Tok}
theorem aL8 (W:dU K C D) (Z:XIs K C):PySem.W.findObj K C od "__class__"=some (.bind (.builtin "getset_descriptor.__get__") (.builtin "object.__class__")):=by
 obtain ⟨cd,hc,_⟩:=W.at_;unfold PySem.W.findObj;rw [hc,km,Z.at_,km];simp [Z.get,Z.tk]
theorem dU.obj (W:dU K C D):PySem.W.mroIn K C (.type "object")=some true:=by
 obtain ⟨cd,hc,_,hm⟩:=W.at_;unfold PySem.W.mroIn;rw [hc,km,hm,ar (by simp)];simp
theorem bW1 {Q:Option Value->Shared->Prop}(X:K.In s.heap) (I:PySem.W.InstAt s.heap x ox C od) (W:dU K C D) (Z:XIs K C) (h:Q (some (.ref C)) { s with toks:=s.toks+1 }):wpAny (model prog w) A (getAttr? (.ref x) "__class__") Q E s:=by
 obtain ⟨hp,g,d,t,os⟩:=s;unfold getAttr? getAttrBy?;refine ac (wpAny_mkText (ac (vw (xby (s:=⟨hp,g,d,t+1,os⟩) (v:= .ref C) X I W rfl (fun P p=>?_) (ao h)))));have L0:=I.type (M:=model prog w);have L3:=xa (M:=model prog w) X I (aL8 (od:=od) W Z);refine ac (ao (ac (ao (ac (L0.at (ac (L3.at ?_)))))));show wpAny _ _ (holding [.builtin "object.__class__"] (call (.builtin "getset_descriptor.__get__") [.builtin "object.__class__",.ref x,.ref C]) >>= ret) _ _ _;exact ac (gw (on (PySem.W.class_get (s:=⟨hp,g,d,t+1,os⟩) X I W.obj (ao p))))
theorem dU.isT {M:Model}{h:Heap}(W:dU K C D) (X:K.In h):PySem.W.Looks M h (isType (.ref C)) true:=by
 obtain ⟨cd,hc,_⟩:=W.at_;unfold PySem.W.clsIn at hc
 split at hc
 ·rename_i ho
  intro A' Q' E' s' k q;unfold isType loadHead;exact ac (qm (k _ _ (X _ _ ho)) (ao q))
 ·cases hc
theorem xN (W:dU K C D) (Z:XIs K C):PySem.W.KitX K (.ref x) (.ref C) (fun h=>∃ ox od,PySem.W.InstAt h x ox C od) where
 ty:=fun _ _ _ ⟨_,_,I⟩=>I.type
 it:=fun _ _ X _=>W.isT X
 ne:=fun h tp dd its n sl X htp=>by
  obtain ⟨cd,hc,_⟩:=W.at_;refine my.mpr fun q=>?_
  cases Value.ref.inj (re.mp q)
  unfold PySem.W.clsIn at hc
  split at hc
  ·rename_i ho
   cases (X _ _ ho).symm.trans htp
  ·cases hc
 ca:=fun X ⟨_,_,I⟩ k=>bW1 X I W Z k
end
def XAt (H:Hp) (a C:Addr):Prop:=H a=some (XN a C)\/∃ dx fs,H a=some (XD a C dx)/\H dx=some (XM dx fs)
section
variable {X:Cx}{pins:List (Addr×Obj)}{σ: St}{H:Hp}{s:Shared}{a C D dx:Addr}{fs:List (Str×V)}{f:Str}{v:V}{A:Around}{E:Value->Shared->Prop}
theorem bD7 (I:bC X pins σ H s) (e:H a=some (XN a C)):∃ o,s.heap.get? a=some o/\o.cls= .ref C/\W.notCls o=true/\o.dict=none :=
 (show cK X.prog X.w H s.heap a (XN a C) from I.hok a _ e).1
theorem aJ6 (I:bC X pins σ H s) (e:H a=some (XD a C dx)):∃ o,s.heap.get? a=some o/\o.cls= .ref C/\W.notCls o=true/\o.dict=some dx :=
 (show cK X.prog X.w H s.heap a (XD a C dx) from I.hok a _ e).1
theorem aH3 (I:bC X pins σ H s) (e:H dx=some (XM dx fs)):∃ mA,s.heap.Ns1 dx mA/\(∀ f,kW (fs.lookup f) (mA f))/\PySem.Within mA (fs.map (·.1)) :=
 (show cK X.prog X.w H s.heap dx (XM dx fs) from I.hok dx _ e).1
theorem yD (I:bC X pins σ H s) (e:XAt H a C):∃ ox od,W.InstAt s.heap a ox C od:=by
 rcases e with e | ⟨dx,fs,e,e'⟩
 ·obtain ⟨o,h1,h2,h3,h4⟩:=bD7 I e;exact ⟨o,none,h1,h2,h3,by rw [h4];trivial⟩
 ·obtain ⟨o,h1,h2,h3,h4⟩:=aJ6 I e;obtain ⟨mA,n,_⟩:=aH3 I e';obtain ⟨od,ho,_⟩:=lH n;exact ⟨o,some od,h1,h2,h3,by rw [h4];exact ho⟩
theorem aH5:eM X (.builtin "isinstance") (fun xs H Q=>∃ a c C D b,xs=[.ref a,c]/\(∃ C',c= .ref C'/\PySem.W.kitOne X.K (.ref C) (.ref C')=some b\/∃ n,c= .ty n/\PySem.W.kitOne X.K (.ref C) (.type n)=some b)/\XAt H a C/\dU X.K C D/\XIs X.K C/\Q (.bl b) H):=by
 intro pins s σ H xs us Q I r h;obtain ⟨a,c,C,D,b,rfl,e,x,W,Z,q⟩:=h;obtain ⟨u,w',rfl,ru,rw'⟩:=wY r
 cases ru
 have fin:∀ tk,EP X pins σ Q (.bool b) { s with toks:=tk }:=fun tk=>⟨.bl b,H,I.tok tk,rfl,q⟩
 obtain ⟨C',e⟩:=e;rcases e with ⟨rfl,e⟩ | ⟨n,rfl,e⟩
 ·cases rw'
  exact eh (xN W Z) I.kIn (yD I x) e (fun z=>nomatch z) fin
 ·cases rw'
  exact eh (xN W Z) I.kIn (yD I x) e (fun z=>nomatch z) fin
def aW9 (K:W.Frag) (ta:TE) (f:Str):TE:=fun σ H Q=>ta σ H fun x H1=>∃ a C D dx fs v,x= .ref a/\H1 a=some (XD a C dx)/\H1 dx=some (XM dx fs)/\dU K C D/\mB K C f/\fs.lookup f=some v/\Q v H1
theorem aR7 {e:Expr}{pos:Pos}{ta:TE}(he:PE X e ta) (hb:attributeBase e f X.env (eval e X.env)=eval e X.env):PE X (.Attribute e f pos) (aW9 X.K ta f):=by
 intro pins s σ H Q I h;refine aR2 hb (dJ (he pins s σ H _ I h) ?_);rintro u s1 ⟨x,H1,I1,rx,a,C,D,dx,fs,v,ex,ea,ed,W,n,l,q⟩;subst ex;obtain rfl:u=Value.ref a:=rx;obtain ⟨o,h1,h2,h3,h4⟩:=aJ6 I1 ea;obtain ⟨mA,nd,r,_⟩:=aH3 I1 ed;obtain ⟨od,ho,hl⟩:=lH nd;obtain ⟨u,hu,ru⟩:=kW.some_of (v:=v) (o:=mA f) (by rw [<- l];exact r f);have J:PySem.W.InstAt s1.heap a o C (some od):=⟨h1,h2,h3,by rw [h4];exact ho⟩
 obtain ⟨cd,hc,hd,_⟩:=W.at_;have hh:PySem.W.hasDictIn X.K C=true:=by unfold PySem.W.hasDictIn;rw [hc];exact hd
 exact bV5 I1.kIn J W (PySem.W.findObj_own hh n rfl (by rw [hl,hu])) (aC9 ru) ⟨v,H1,I1.tok _,ru,q⟩
end
theorem aY3 {K:W.Frag}{h:Heap}{a:Addr}{m:Str->Option Value}{n:Str}{r:Option Value}(X:K.In h) (G:h.Ns a m) (e:W.nsIn K a n=some r):m n=r:=by
 obtain ⟨o,es,ep,ho,hd,_,hf⟩:=G;rw [<- hf];unfold nsFind findBy;rw [<- wk];unfold W.nsIn at e
 split at e
 ·rename_i q
  have z:=(X _ _ q).symm.trans ho
  cases z
  cases hd
  split at e
  ·rename_i he
   cases e
   rw [he];rfl
  ·rename_i he
   split at e
   ·cases e
   ·cases e
    rw [he];rfl
 ·cases e
section
variable {prog:Program}{w:World}{A:Around}{E:Value->Shared->Prop}{h:Heap}{g:Array GenState}{d:Drawn}{t:Nat}{os:OsState}
variable {nm q:Str}{C N fI:Addr}{bs bm bmB bmN:List Value}{hdct:Bool}{sn:List Str}{sub:List Value}{ab:Bool}{col:Option Bool}{dd:Option Addr}{k0 k1 k2 k3 k5:Option Value}{B Bn newId nid inN initId:String}
end
abbrev veB:List Value:=[.type "ValueError",.type "Exception",.type "BaseException",.type "object"]
structure XMk (K:W.Frag) (C D:Addr) (i:Option Value):Prop where
 kp:W.keepIn K (.ref C)=true
 cls:∃ (nm q:Str) (N:Addr) (bs:List Value) (hdct:Bool) (sn:List Str) (sub:List Value) (ab:Bool) (col:Option Bool) (dd:Option Addr) (k0 k1 k2 k3 k5:Option Value) (Bn newId inN:String) (bmN:List Value),ExcBaseFacts Bn newId inN bmN/\veB.contains (.type Bn)=true /\
  K.lookup C=some (excClassObj nm q C N bs (.ref D :: veB) hdct sn sub ab col dd k0 k1 k2 k3 k5 newId)/\gI K N=true/\W.nsIn K N "__init__"=some i
 up:∃ (c0:Value) (dd:Option Addr) (cd:ClassData) (sl:Array (Option Value)),K.lookup D=some ⟨c0,dd,.cls cd,sl⟩/\gI K cd.ns=true/\W.nsIn K cd.ns "__init__"=some none
theorem XMk.tail {K:W.Frag}{C D:Addr}{i:Option Value}{h:Heap}(M:XMk K C D i) (X:K.In h):OwnTail h veB (.ref D :: veB):=by
 obtain ⟨c0,dd,cd,sl,l,tx,n⟩:=M.up;obtain ⟨m,hm⟩:=pV X tx;exact .own (X _ _ l) hm (aY3 X hm n) .base
section
variable {X:Cx}{CX:CXT}{k:Nat}{f C D:Addr}{fd:FuncData}{ps:List Str}{sp:Sp}{E:XK}{x:Str}{p pos:Pos}{e:Expr}{es:List Expr}{t:TA}
end
theorem dU.subIn {K:PySem.W.Frag}{C D:Addr}(W:dU K C D) (T:Value):PySem.W.subIn K (.ref C) T=some ((wZ C D).contains T):=by
 obtain ⟨cd,hc,_,hm⟩:=W.at_;show PySem.W.mroIn K C T=_;unfold PySem.W.mroIn;rw [hc,km,hm,ar (by simp)]
theorem aV4:W.kitMeta "ValueError"=true:=by decide +kernel
theorem aQ8 {K:W.Frag}{C D N:Addr}{nm q:Str}{bs:List Value}{sn:List Str}{sub:List Value}{ab:Bool}{col:Option Bool}{dd:Option Addr}{k0 k1 k2 k3 k5:Option Value}{newId:String}
  (l:K.lookup C=some (excClassObj nm q C N bs (.ref D :: veB) true sn sub ab col dd k0 k1 k2 k3 k5 newId)) (sa:W.findIn K (.ref C) "__setattr__"=some (some (.builtin "object.__setattr__")))
  (ga:W.findIn K (.ref C) "__getattribute__"=some (some (.builtin "BaseException.__getattribute__"))) (gh:W.findIn K (.ref C) "__getattr__"=some none):dU K C D :=
 ⟨⟨_,by unfold W.clsIn;rw [l],rfl,rfl⟩,sa,ga,gh⟩
theorem bQ6 {K:W.Frag}{C D N:Addr}{nm q:Str}{bs:List Value}{sn:List Str}{sub:List Value}{ab:Bool}{col:Option Bool}{dd:Option Addr}{k0 k1 k2 k3 k5 i:Option Value}
  {c0:Value}{dd':Option Addr}{cd:ClassData}{sl:Array (Option Value)}
  (l:K.lookup C=some (excClassObj nm q C N bs (.ref D :: veB) true sn sub ab col dd k0 k1 k2 k3 k5 "ValueError.__new__")) (kp:W.keepIn K (.ref C)=true) (tx:gI K N=true) (ni:W.nsIn K N "__init__"=some i)
  (lD:K.lookup D=some ⟨c0,dd',.cls cd,sl⟩) (tD:gI K cd.ns=true) (nD:W.nsIn K cd.ns "__init__"=some none):XMk K C D i :=
 ⟨kp,⟨nm,q,N,bs,true,sn,sub,ab,col,dd,k0,k1,k2,k3,k5,_,_,_,_,qz,by simp,l,tx,ni⟩,⟨c0,dd',cd,sl,lD,tD,nD⟩⟩
theorem aA4 {K:W.Frag}{N:Addr}{oc:Value}{od:Option Addr}{es:Array DictEntry}{n:Nat}{sl:Array (Option Value)}(l:K.lookup N=some ⟨oc,od,.dict es n,sl⟩) (h:(es.toList.all fun e=>match e.key with | .str _ _=>true | _=>false)=true):gI K N=true:=by
 unfold gI;rw [l];exact h
open PySem PySem.Spec PyProof.Rows PySem.W
structure Kp (fs ch:List Addr) (h h':Heap):Prop where
 k:∀ b o,h.get? b=some o->b∉fs->b∉ch->h'.get? b=some o
 f:∀ b o,h.get? b=some o->b∈fs->b∉ch->∃ sl,h'.get? b=some { o with slots:=sl }
theorem Kp.any {fs ch:List Addr}{h h':Heap}(a:Kp fs ch h h') {b:Addr}{o:Obj}(e:h.get? b=some o) (n:b∉ch):∃ sl,h'.get? b=some { o with slots:=sl }:=by
 by_cases c:b∈fs
 ·exact a.f b o e c n
 ·exact ⟨o.slots,a.k b o e c n⟩
theorem Kp.trans {fs ch:List Addr}{h h1 h2:Heap}(a:Kp fs ch h h1) (b:Kp fs ch h1 h2):Kp fs ch h h2 :=
 ⟨fun c o e n m=>b.k c o (a.k c o e n m) n m,fun c o e n m=>by
  obtain ⟨sl,e1⟩:=a.f c o e n m;obtain ⟨sl2,e2⟩:=b.f c _ e1 n m;exact ⟨sl2,e2⟩⟩
theorem Kp.mono {fs ch ch':List Addr}{h h':Heap}(a:Kp fs ch h h') (s:∀ b∈ch,b∈ch'):Kp fs ch' h h':=⟨fun b o e n m=>a.k b o e n fun z=>m (s b z),fun b o e n m=>a.f b o e n fun z=>m (s b z)⟩
theorem Kp.kept {fs:List Addr}{h h':Heap}(k:∀ b o,h.get? b=some o->h'.get? b=some o):Kp fs [] h h':=⟨fun b o e _ _=>k b o e,fun b o e _ _=>⟨o.slots,k b o e⟩⟩
theorem aY4 {base:Heap}:∀ {l:List Env}{h h':Heap},h.FunFrames base l->(∀ b∈jR l,∀ o,h.get? b=some o->∃ sl,h'.get? b=some { o with slots:=sl })->h'.FunFrames base l
 |[],_,_,_,_=>by rw [Heap.FunFrames.eq_1];trivial
 |env :: l,h,h',ff,k=>by
  rw [Heap.FunFrames.eq_2] at ff ⊢;obtain ⟨h1,⟨L,o,h2,h3,h4,h5⟩,h6⟩:=ff;obtain ⟨sl,e⟩:=k L (iy.mpr ⟨env,bh,h2⟩) o h4;refine ⟨h1,⟨L,_,h2,h3,e,h5⟩,aY4 h6 fun b hb=>k b ?_⟩;obtain ⟨env',h7,h8⟩:=iy.mp hb;exact iy.mpr ⟨env',ay _ h7,h8⟩
section
variable {M:Model}{A:Around}{E:Value->Shared->Prop}{s:Shared}{base:Heap}{env:Env}{outer:List Env}{L x T C:Addr}{Q:Unit->Shared->Prop}
end
theorem cK.got {P:Program}{w:World}{H:Hp}{h:Heap}{a:Addr}{o:HO}(x:cK P w H h a o):∃ ob,h.get? a=some ob:=by
 cases o with
 |lst xs=>obtain ⟨_,_,_,_,e⟩:=x;exact ⟨_,e⟩
 |tup xs=>obtain ⟨_,_,_,o,e,_⟩:=x;exact ⟨_,e⟩
 |dK kvs=>obtain ⟨_,_,_,_,o,_,_,e,_⟩:=x;exact ⟨_,e⟩
 |dT kvs=>obtain ⟨_,_,_,_,o,_,_,e,_⟩:=x;exact ⟨_,e⟩
 |set S n=>obtain ⟨o,_,_,_,e,_⟩:=x;exact ⟨_,e⟩
 |ins C dx fs=>obtain ⟨_,_,_,e,_⟩:=x;exact ⟨_,e⟩
 |own y=>obtain ⟨_,e⟩:=x;exact ⟨_,e⟩
 |xd fs=>obtain ⟨_,⟨_,_,_,e,_⟩,_⟩:=x;exact ⟨_,e⟩
 |rng lo hi=>obtain ⟨_,_,_,e⟩:=x;exact ⟨_,e⟩
 |frz ob u=>obtain ⟨e,_⟩:=x;exact ⟨_,e⟩
 |tbl ps=>exact ⟨_,(show h.get? a=some _ from x)⟩
 |met f y=>exact ⟨_,(show h.get? a=some _ from x)⟩
 |ext φ=>obtain ⟨_,⟨_,e⟩,_⟩:=x;exact ⟨_,e⟩
theorem jA.none {P:Program}{w:World}{H:Hp}{h:Heap}{a:Addr}(x:jA P w H h) (e:h.get? a= .none):H a= .none:=by
 cases q:H a with
 |none=>rfl
 |some u =>
  obtain ⟨o,z⟩:=(x a u q).got;rw [e] at z
  cases z
section
variable {X:Cx}{pins:List (Addr×Obj)}{σ: St}{H:Hp}{s:Shared}
theorem gD (hs:X.stack=X.env :: X.outer) (hf:X.env.frame=some X.env.locals) {b:Addr}:b∈jR X.stack↔b=X.env.locals\/b∈jR X.outer:=by
 rw [hs];unfold jR;rw [kx,hf];simp
theorem bC.hokK (I:bC X pins σ H s) {h':Heap}{ch:List Addr}(k:Kp (jR X.stack) ch s.heap h') (n:∀ b∈ch,H b= .none):jA X.prog X.w H h':=fun b u e=>by
 have nf:∀ c v,H c=some v->c∉jR X.stack/\c∉ch:=fun c v e=>⟨fun z=>(by rw [I.stkFree c z] at e;cases e),fun z=>(by rw [n c z] at e;cases e)⟩
 refine (I.hok b u e).stay (fun c v hc q=>?_) (fun c q=>q) fun c xs q=>q
 rcases hc with z | z
 ·rw [z] at q ⊢;exact k.k _ _ q (nf b u e).1 (nf b u e).2
 ·exact k.k _ _ q (nf c _ z).1 (nf c _ z).2
end
structure bB5 (X:Cx) (pins:List (Addr×Obj)) (x:Addr):Prop where
 s0:X.s₀.heap.get? x= .none
 loc:x≠X.env.locals
 cel:∀ y c,X.env.cells.lookup y=some c->c≠x
 pin:∀ p∈X.pn++pins,p.1≠x
 fr:x∉jR X.stack
section
variable {X:Cx}{pins:List (Addr×Obj)}{σ: St}{H:Hp}{s:Shared}{x:Addr}
theorem bC.away (I:bC X pins σ H s) (hex:X.ex=[]) (e:s.heap.get? x= .none):bB5 X pins x where
 s0:=by
  cases q:X.s₀.heap.get? x with
  |none=>rfl
  |some o =>
   obtain ⟨o',z⟩:=I.base.there x o q (by rw [hex];simp);rw [e] at z;cases z
 loc:=fun z=>by
  obtain ⟨m,⟨o,es,ep,ho,_⟩,_⟩:=I.loc;rw [<- z,e] at ho;cases ho
 cel:=fun y c hc z=>by
  obtain ⟨v,o,ho,_⟩:=I.cell y c hc;rw [z,e] at ho;cases ho
 pin:=fun p hp z=>by
  have:=(I.pin p hp).1;rw [z,e] at this;cases this
 fr:=fun z=>by
  obtain ⟨_,o,ho,_⟩:=I.stack.mem z;rw [e] at ho;cases ho
theorem bC.nopins (I:bC X pins σ H s):bC X [] σ H s:=⟨I.ok,I.os,I.bare,I.base,I.loc,I.cell,I.free,I.freeC,fun p hp=>I.pin p (by simp at hp ⊢;exact .inl hp),I.hok,I.len⟩
theorem bC.move (I:bC X pins σ H s) (hs:X.stack=X.env :: X.outer) (hf:X.env.frame=some X.env.locals) (hex:X.ex=[]) {h':Heap}{H':Hp}{ch:List Addr}(aw:∀ b∈ch,bB5 X pins b) (k:Kp (jR X.stack) ch s.heap h') (hn:∀ b,b∉ch->H' b=H b) (hc:∀ b∈ch,H b= .none)
  (hok:jA X.prog X.w H' h'):bC X pins σ H' { s with heap:=h' }:=by
 have ns0:∀ b o,X.s₀.heap.get? b=some o->b∉ch:=fun b o e z=>by rw [(aw b z).s0] at e;cases e
 have neL:∀ b o,X.s₀.heap.get? b=some o->b≠X.env.locals:=fun b o e=>cg (bv (aq e) I.ok.above)
 have nch:∀ b u,H b=some u->b∉ch:=fun b u e z=>by rw [hc b z] at e;cases e
 have lnc:X.env.locals∉ch:=fun z=>(aw _ z).loc rfl
 have cell:∀ y c v,X.env.cells.lookup y=some c->s.heap.IsCell c v->h'.IsCell c v:=fun y c v hy ⟨o,ho,hd⟩=>by
  obtain ⟨sl,e⟩:=k.any ho (fun z=>(aw c z).cel y c hy rfl);exact ⟨_,e,hd⟩
 refine ⟨I.ok,I.os,I.bare,⟨fun b o e n nb nx=>?_,fun b o e n hb nx=>?_,fun b o e n nx=>?_,fun b o e nx=>?_,fun b xs e=>?_,fun b o u e=>?_,fun b ps e=>?_⟩,?_,fun y c hy=>?_,?_,fun y c hy=>?_,fun p hp=>?_,hok,I.len⟩
 ·exact k.k b o (I.base.keep b o e n nb nx) (fun z=>by
   rcases (gD hs hf).mp z with z | z
   ·exact neL b o e z
   ·exact nb z) (ns0 b o e)
 ·obtain ⟨sl,e1⟩:=I.base.slot b o e n hb nx;obtain ⟨sl',e2⟩:=k.f b _ e1 ((gD hs hf).mpr (.inr hb)) (ns0 b o e);exact ⟨sl',e2⟩
 ·rw [hn b (ns0 b o e)];exact I.base.free b o e n nx
 ·obtain ⟨o',e1⟩:=I.base.there b o e nx;obtain ⟨sl,e2⟩:=k.any e1 (ns0 b o e);exact ⟨_,e2⟩
 ·have q:=I.base.tups b xs e;rw [hn b (nch b _ q)];exact q
 ·have q:=I.base.frzs b o u e;rw [hn b (nch b _ q)];exact q
 ·obtain ⟨more,q⟩:=I.base.tbls b ps e;exact ⟨more,by rw [hn b (nch b _ q)];exact q⟩
 ·obtain ⟨m,⟨o,es,ep,ho,r⟩,lk⟩:=I.loc;obtain ⟨sl,e⟩:=k.any ho lnc;refine ⟨m,⟨_,es,ep,e,r⟩,fun i y v h1 h2 h3=>?_⟩;obtain ⟨u,ru,l⟩:=lk i y v h1 h2 h3;refine ⟨u,ru,?_⟩;rcases l with l | ⟨l1,c,l2,l3⟩
  ·exact .inl l
  ·exact .inr ⟨l1,c,l2,cell y c _ l2 l3⟩
 ·obtain ⟨v,hv⟩:=I.cell y c hy;exact ⟨v,cell y c v hy hv⟩
 ·rw [hn _ lnc];exact I.free
 ·rw [hn c fun z=>(aw c z).cel y c hy rfl];exact I.freeC y c hy
 ·obtain ⟨p1,p2,p3,p4,p5⟩:=I.pin p hp;have pc:p.1∉ch:=fun z=>(aw _ z).pin p hp rfl
  refine ⟨k.k _ _ p1 (fun z=>?_) pc,by rw [hn _ pc];exact p2,p3,p4,p5⟩;rcases (gD hs hf).mp z with z | z
  ·exact p3 z
  ·exact p4 z
theorem bC.unset {i:Nat}{n:Str}{h':Heap}{u:Option Value}{m:Str->Option Value}(I:bC X pins σ H s) (hN:X.N.Nodup) (hi:X.N[i]?=some n) (hl:X.env.kindOf n=some .local) (lk:∀ (i:Nat) (x:Str) (v:V),X.N[i]?=some x->σ[i]?=some (some v)->Vis X.env.scope x->∃ u,bX v u/\bP5 X.env s.heap m x u)
  (ns:h'.Ns X.env.locals (fun x=>if x=n then u else m x)) (sb:Heap.SameBut X.env.locals s.heap h'):bC X pins (σ.set i .none) H { s with heap:=h' }:=by
 have kp:∀ b o,b≠X.env.locals->s.heap.get? b=some o->h'.get? b=some o:=fun b o hb e=>(sb.2 b hb).trans e
 have neL:∀ b o,X.s₀.heap.get? b=some o->b≠X.env.locals:=fun b o e=>cg (bv (aq e) I.ok.above)
 have cell:∀ c v,s.heap.IsCell c v->h'.IsCell c v:=fun c v ⟨o,ho,hd⟩=>⟨o,kp c o (fun z=>by
  obtain ⟨m',⟨o',es,ep,ho',hd',_⟩,_⟩:=I.loc;rw [z,ho'] at ho
  cases ho
  rw [hd'] at hd
  cases hd) ho,hd⟩
 refine ⟨I.ok,I.os,I.bare,⟨fun b o e n nb nx=>kp b o (neL b o e) (I.base.keep b o e n nb nx),fun b o e n hb nx=>?_,I.base.free,fun b o e nx=>?_,I.base.tups,I.base.frzs,I.base.tbls⟩,⟨_,ns,fun j y v h1 h2 h3=>?_⟩,fun y c hy=>?_,I.free,I.freeC,fun p hp=>?_,fun b v e=>?_,by rw [List.length_set];exact I.len⟩
 ·obtain ⟨sl,e1⟩:=I.base.slot b o e n hb nx;exact ⟨sl,kp b _ (neL b o e) e1⟩
 ·obtain ⟨o',e1⟩:=I.base.there b o e nx;exact ⟨o',kp b o' (neL b o e) e1⟩
 ·by_cases c:j=i
  ·subst c;rw [List.getElem?_set_self'] at h2
   cases hq:σ[j]? with
   |none=>rw [hq] at h2;cases h2
   |some z=>rw [hq] at h2;cases h2
  ·rw [om (fun z=>c z.symm)] at h2;obtain ⟨w',rw',l⟩:=lk j y v h1 h2 h3;refine ⟨w',rw',?_⟩;rcases l with ⟨l1,l2⟩ | ⟨l1,cc,l2,l3⟩
   ·refine .inl ⟨l1,?_⟩;show (if y=n then u else m y)=some w';rw [ar (show ¬ y=n from fun z=>c ?_)]
    ·exact l2
    ·rw [z] at h1;have a1:=(az.mp h1)
     have a2:=(az.mp hi)
     exact (rm hN).mp (a1.2.trans a2.2.symm)
   ·exact .inr ⟨l1,cc,l2,cell cc _ l3⟩
 ·obtain ⟨v,hv⟩:=I.cell y c hy;exact ⟨v,cell c v hv⟩
 ·obtain ⟨p1,p2,p3,p4,p5⟩:=I.pin p hp;exact ⟨kp _ _ p3 p1,p2,p3,p4,p5⟩
 ·refine (I.hok b v e).stay (fun c o hc q=>kp c o ?_ q) (fun c q=>q) fun c xs q=>q
  rcases hc with z | z
  ·rw [z];intro z2;rw [z2,I.free] at e;cases e
  ·intro z2;rw [z2,I.free] at z;cases z
abbrev Cx.hand (X:Cx) (x:Addr):Cx:={ X with A:=X.A.mark (some (.ref x)),calm:=false,xe:=fun _ _=>False }
theorem bC.hand (I:bC X pins σ H s) (x:Addr):bC (X.hand x) pins σ H s :=
 ⟨⟨I.ok.mod,I.ok.kind,I.ok.glob,I.ok.blt,I.ok.above,I.ok.inj,I.ok.has,I.ok.cab,(fun z=>nomatch z),I.ok.frames,I.ok.stk,I.ok.exf,I.ok.bs,I.ok.bsz,I.ok.noex,I.ok.exfs,I.ok.funs,I.ok.frf⟩,I.os,I.bare,I.base,I.loc,I.cell,I.free,I.freeC,I.pin,I.hok,I.len⟩
theorem bC.unhand {x:Addr}(ok:X.Ok) (I:bC (X.hand x) pins σ H s):bC X pins σ H s:=⟨ok,I.os,I.bare,I.base,I.loc,I.cell,I.free,I.freeC,I.pin,I.hok,I.len⟩
end
structure XUp (K:W.Frag) (D:Addr):Prop where
 ty:typeIn K (.ref D)=some (.type "type")
 cl:(clsIn K D).isSome=true
 be:subIn K (.ref D) (.type "BaseException")=some true
theorem yH {K:W.Frag}:subIn K (.type "type") (.type "tuple")=some false:=by
 show Option.map _ (fastBuiltinMro "type")=_
 decide +kernel
theorem aV3 {M:Model}{K:W.Frag}{h:Heap}{D:Addr}(c:(clsIn K D).isSome=true) (X:K.In h):Looks M h (isType (.ref D)) true:=by
 obtain ⟨cd,hc⟩:=ji.mp c;unfold clsIn at hc
 split at hc
 ·rename_i ho
  intro A' Q' E' s' k q;unfold isType loadHead;exact ac (qm (k _ _ (X _ _ ho)) (ao q))
 ·cases hc
section
variable {X:Cx}
def PS0 (X:Cx) (st:Stmt) (t:TS):Prop:=∀ (s:Shared) (σ: St) (H:Hp) (D:fY),bC X [] σ H s->t D σ H->wpAny (model X.prog X.w) X.A (exec st X.env) (SP X [] D) X.xe s
def vL (X:Cx) (st:List Stmt) (t:TS):Prop:=∀ (s:Shared) (σ: St) (H:Hp) (D:fY),bC X [] σ H s->t D σ H->wpAny (model X.prog X.w) X.A (execs st X.env) (SP X [] D) X.xe s
theorem PS.p0 {st:Stmt}{t:TS}(h:PS X st t):PS0 X st t:=fun s σ H D I q=>h [] s σ H D I q
theorem oN.p0 {st:List Stmt}{t:TS}(h:oN X st t):vL X st t:=fun s σ H D I q=>h [] s σ H D I q
theorem aA8 {st:Stmt}{rest:List Stmt}{t u:TS}(h1:PS0 X st t) (h2:vL X rest u):vL X (st :: rest) (bH7 t u):=by
 intro s σ H D I h;refine rp (dJ (h1 s σ H { D with nx:=u D } I h) fun f s1 q=>?_)
 cases f with
 |next =>
  obtain ⟨σ',H',I',q⟩:=q;exact h2 s1 σ' H' D I' q
 |ret v=>exact q
 |brk=>exact q
 |cont=>exact q
theorem vL.nox {st:List Stmt}{t:TS}(h:vL X.nox st t):vL X st t:=fun s σ H D I q =>
 di (h s σ H D (I.wish _) q) (fun f s' z=>SP.unwish z) fun _ _ z=>z.elim
end
theorem sP {K:W.Frag}{t:Value}:∀ {its:List Value},(∀ c∈its,kitOne K t c=some false)->kitAny K t its=some false
 |[],_=>rfl
 |c :: r,h=>by
  have h1:=h c bh;have h2:=sP fun x hx=>h x (ay _ hx)
  simp [kitAny,h1,h2]
theorem qO:∀ {cs:List Addr}{us:List Value},bN (cs.map V.ref) us->us=cs.map Value.ref
 |[],_,.nil=>rfl
 |c :: cs,_,.cons r t=>by
  have r:_=Value.ref c:=r;rw [qO t,r];rfl
theorem aO9 {X:Cx}:eM X (.builtin "isinstance") (fun xs H Q=>∃ (a p C D:Addr) (cs:List Addr),xs=[.ref a,.ref p]/\aQ X.K H p (cs.map V.ref)/\XAt H a C/\dU X.K C D/\XIs X.K C/\(∀ c∈cs,kitOne X.K (.ref C) (.ref c)=some false)/\Q (.bl false) H):=by
 intro pins s σ H xs us Q I r h;obtain ⟨a,p,C,D,cs,rfl,hq,x,W,Z,no,q⟩:=h;obtain ⟨u,w',rfl,ru,rw'⟩:=wY r
 cases ru
 cases rw'
 obtain ⟨its,rv,⟨⟨cls,dd,data,sl⟩,ho,hc,n,hd⟩,_⟩:=I.tuple hq;simp only at hc hd;subst hc hd;have e:=qO rv;subst e;refine kia_tup (xN W Z) I.kIn (yD I x) ho (sP fun c hc=>?_) (fun z=>nomatch z) fun tk=>⟨.bl false,H,I.tok tk,rfl,q⟩
 obtain ⟨c',hc',rfl⟩:=kg.mp hc;exact no c' hc'
section
variable {P:Program}{w:World}{K:W.Frag}{mg:Str->Option Value}{base:Heap}
theorem oP.ok0 {x qual:Str}{st:Stmt}{f:Addr}{fd:FuncData}{N ps:List Str}{k:Nat}{sp:Sp}(F:oP K x qual st f fd) (S:gG N ps (aZ st)) (len:∀ vs H Q E,sp vs H Q E->vs.length=ps.length)
  (hbody:∀ (cdv:Value) (A:Around) (outer:List Env) (s:Shared) (H:Hp) (vs:List V) (Q:VK) (E:XK),eE k (A.deeper (envOfC qual (aZ st) s.heap.objs.size f cdv))->sp vs H Q E ->
   ∃ t,vL (gO wR P w K mg base N qual (aZ st) f cdv A outer s H E).nox (cH st) t/\t { nx:=fun _ H'=>Q .non H',rt:=Q } (iJ N vs) H):jP P w K mg base wR (k+1) f fd ps sp:=by
 obtain ⟨oc,od,kV,doc,pm,an,cdv,ct,osl,rfl,lk,hcd⟩:=F.ex;refine ⟨len,fun A outer s H args us vs Q E hr e0 hb r hsp=>?_⟩;have hl:=len _ _ _ _ hsp;have KX:K.In s.heap:=e0.mod.kin.keeps fun b o e=>(e0.bs b o e).1
 have lim:s.heap.NoLimit:=e0.mod.nolimit.keeps fun b o e=>(e0.bs b o e).1
 have hkind:∀ y∈ps.zip us,(aZ st).names.lookup y.1=some .local\/((aZ st).names.lookup y.1=some .cell/\((cellsFrom (s.heap.objs.size+1) (aZ st).names []).lookup y.1).isSome=true):=fun ⟨n,v⟩ hy=>by
  rcases S.par n (oo hy).1 with q | q
  ·exact .inl q
  ·exact .inr ⟨q,W.cellsFrom_some _ _ _ (.inl q)⟩
 refine uo hr.depth (KX _ _ lk) rfl S.co S.gen rfl (W.codeRec_of KX hcd) (hb _ _ _ _ ?_);refine qx S.kind hkind fun env he s1 x=>?_
 subst he;refine ⟨lim.keeps x.toInCall.keep,codeAny_func ?_⟩;obtain ⟨t,ht,hq⟩:=hbody cdv A outer s H vs Q E (hr.deeper _) hsp;have I:bC (gO wR P w K mg base N qual (aZ st) f cdv A outer s H E) [] (iJ N vs) H s1:=tN S hr.hd e0 hl r x;refine di (ht.nox s1 (iJ N vs) H _ I hq) (fun fl s' hs=>?_) fun e s' hs=>hs
 have fin:∀ {σ':St}{H':Hp}{v:V}{u:Value},bC (gO wR P w K mg base N qual (aZ st) f cdv A outer s H E) [] σ' H' s'->bX v u->Q v H'->CE outer P w H s Q u s' :=
  fun {σ' H' v u} J rv q=>⟨v,H',J.os,J.bare,J.base,J.hok,rv,q⟩
 cases fl with
 |ret u =>
  obtain ⟨v,σ',H',J,rv,q⟩:=hs;exact fin J rv q
 |next =>
  obtain ⟨σ',H',J,q⟩:=hs;exact fin (v:=V.non) (u:=Value.none) J rfl q
 |brk =>
  obtain ⟨_,_,_,q⟩:=hs;exact False.elim q
 |cont =>
  obtain ⟨_,_,_,q⟩:=hs;exact False.elim q
end
section
variable {X:Cx}{k:Nat}{f:Addr}{fd:FuncData}{ps:List Str}{sp:Sp}{x:Str}{p pos:Pos}{e:Expr}{es:List Expr}{t:TA}
end
open PySem PySem.Spec PyProof.Rows
def XN1 (a C:Addr):HO:= .ext fun h=>∃ o,h.get? a=some o/\o.cls= .ref C/\o.dict=none/\∃ t,o.data= .fields #[.ref t,.none,.none,.none,.bool false,.none]
def zQ (a C dx:Addr):HO:= .ext fun h=>∃ o,h.get? a=some o/\o.cls= .ref C/\o.dict=some dx/\∃ t,o.data= .fields #[.ref t,.none,.none,.none,.bool false,.none]
section
variable {P:Program}{w:World}{H:Hp}{h:Heap}{a C dx:Addr}
theorem bI2 (e:∃ o,h.get? a=some o/\o.cls= .ref C/\o.dict=none/\∃ t,o.data= .fields #[.ref t,.none,.none,.none,.bool false,.none]):cK P w H h a (XN1 a C) :=
 ⟨e,let ⟨o,h,_⟩:=e;⟨o,h⟩,(by rintro h1 h2 ⟨o,h,r⟩ k;exact ⟨o,k _ h,r⟩)⟩
theorem aY9 (e:∃ o,h.get? a=some o/\o.cls= .ref C/\o.dict=some dx/\∃ t,o.data= .fields #[.ref t,.none,.none,.none,.bool false,.none]):cK P w H h a (zQ a C dx) :=
 ⟨e,let ⟨o,h,_⟩:=e;⟨o,h⟩,(by rintro h1 h2 ⟨o,h,r⟩ k;exact ⟨o,k _ h,r⟩)⟩
end
section
variable {X:Cx}{pins:List (Addr×Obj)}{σ: St}{H:Hp}{s:Shared}{a C dx:Addr}{f:Str}
theorem aV2 (I:bC X pins σ H s) (e:H a=some (XN1 a C)):∃ o,s.heap.get? a=some o/\o.cls= .ref C/\o.dict=none/\∃ t,o.data= .fields #[.ref t,.none,.none,.none,.bool false,.none] :=
 (show cK X.prog X.w H s.heap a (XN1 a C) from I.hok a _ e).1
theorem uK (I:bC X pins σ H s) (e:H a=some (zQ a C dx)):∃ o,s.heap.get? a=some o/\o.cls= .ref C/\o.dict=some dx/\∃ t,o.data= .fields #[.ref t,.none,.none,.none,.bool false,.none] :=
 (show cK X.prog X.w H s.heap a (zQ a C dx) from I.hok a _ e).1
def bH1 (K:W.Frag) (ta tv:TE) (f:Str):TS:=fun D σ H=>tv σ H fun y H1=>ta σ H1 fun x H2=>∃ a C B,x= .ref a/\dU K C B/\mB K C f /\
 (H2 a=some (XN1 a C)/\∀ dx,H2 dx=none->D.nx σ (aJ (aJ (aJ H2 dx (XM dx [])) a (zQ a C dx)) dx (XM dx [(f,y)])))
theorem aM3 {o value:Expr}{pos pos':Pos}{ta tv:TE}(ha:PE X o ta) (hv:PE X value tv) (hs:swapsWith value (some (.Attribute o f pos')) pos.line X.env=pure false):PS X (.Assign [.Attribute o f pos'] value pos) (bH1 X.K ta tv f):=by
 intro pins s σ H Dn I h;refine oi (dJ (hv pins s σ H _ I h) ?_) hs;rintro u s1 ⟨y,H1,I1,ry,q⟩;refine dJ (ha pins s1 σ H1 _ I1 q) ?_;rintro ov s2 ⟨x,H2,I2,rx,a,C,B,ex,W,n,q2⟩;subst ex;obtain rfl:ov=Value.ref a:=rx;obtain ⟨ea,q2⟩:=q2;obtain ⟨o',h1,h2,h4,tt,h5⟩:=aV2 I2 ea;have h3:PySem.W.notCls o'=true:=by unfold PySem.W.notCls;rw [h5]
 have hf:H2 s2.heap.objs.size=none:=I2.hok.fresh (ai _);have nea:a≠s2.heap.objs.size:=aK ea hf;refine bP4 I2.kIn h1 h2 h3 h4 W n fun h' n1 sb=>?_
 have e0:(s2.heap.push PySem.W.emptyDict).get? s2.heap.objs.size=some PySem.W.emptyDict:=br s2.heap rfl;have n0:(s2.heap.push PySem.W.emptyDict).Ns s2.heap.objs.size (fun _=>none):=⟨PySem.W.emptyDict, #[],_,e0,rfl,(fun e he=>absurd he (by simp)),fun _=>rfl⟩
 have J1:=I2.laid (a:=s2.heap.objs.size) (o:=XM s2.heap.objs.size []) (h':=s2.heap.push PySem.W.emptyDict) (t':=s2.toks) (fun b u q=>ah _ q) (ai _) (aI8 ⟨fun _=>none,xy n0,fun _=>gi,fun y hy=>absurd rfl hy⟩);have h1':=ah PySem.W.emptyDict h1;have h1u:((s2.heap.push PySem.W.emptyDict).update a fun o=>{ o with dict:=some s2.heap.objs.size }).get? a=some { o' with dict:=some s2.heap.objs.size }:=by
  refine eo _ h1' ?_;have hfr:=(Heap.get?_some_iff.mp h1).2;obtain ⟨oc,od,odt,osl⟩:=o'
  cases odt <;> first | rfl | exact hfr
 have J2:=J1.write (x:=a) (e:=a) (o:=zQ a C s2.heap.objs.size) (h':=(s2.heap.push PySem.W.emptyDict).update a fun o=>{ o with dict:=some s2.heap.objs.size }) (t':=s2.toks) (by rw [aH nea,ea];exact gi) (.inl rfl)
  (fun b u hb q=>(dw _ _ _ _ hb).trans q) ⟨_,h1u⟩ (aY9 ⟨_,h1u,h2,rfl,tt,h5⟩)
 obtain ⟨oD,eD,pD,hoD,rD⟩:=id n1;have J3:=J2.write (x:=s2.heap.objs.size) (e:=s2.heap.objs.size) (o:=XM s2.heap.objs.size [(f,y)]) (h':=h') (t':=s2.toks+2) (by rw [aH nea.symm,aC];exact gi) (.inl rfl) (fun b u hb q=>(sb.2 b hb).trans q) ⟨_,hoD⟩
  (aI8 ⟨_,n1,fun g=>?_,fun g hg=>?_⟩)
 ·exact ⟨σ,_,J3,q2 _ hf⟩
 ·show kW (List.lookup g [(f,y)]) (if g=f then some u else none)
  by_cases z:g=f
  ·subst z;simp [List.lookup];exact ry
  ·have hb:(g == f)=false:=ie.mpr z;simp only [List.lookup,hb,if_neg z];exact gi
 ·by_cases z:g=f
  ·simp [z]
  ·exact absurd (ar z) hg
end
def aA1 (C:Addr) (sp:Sp) (E:XK) (t:TA):TE:=fun σ H Q=>t σ H fun vs H1=>vs.length<=sizeLine/\∀ x,H1 x=none->sp (.ref x :: vs) (aJ H1 x (XN1 x C)) (fun v H2=>v= .non/\Q (.ref x) H2) E
section
variable {X:Cx}{CX:CXT}{k:Nat}{f C D:Addr}{fd:FuncData}{ps:List Str}{sp:Sp}{E:XK}{x:Str}{p pos:Pos}{e:Expr}{es:List Expr}{t:TA}
theorem bA4 {of:Obj}{pins:List (Addr×Obj)}{σ: St}{H:Hp}{s:Shared}{Q:VK}{us:List Value}{vs:List V}(M:XMk X.K C D (some (.ref f))) (lf:X.K.lookup f=some of) (hof:of.cls= .type "function") (F:jP X.prog X.w X.K X.mg X.base CX k f fd ps sp) (hr:eE (k+1) X.A) (hb:gQ X.K fd ps [])
  (hx:jH CX X E) (I:bC X pins σ H s) (r:bN vs us) (h:vs.length<=sizeLine/\∀ x,H x=none->sp (.ref x :: vs) (aJ H x (XN1 x C)) (fun v H2=>v= .non/\Q (.ref x) H2) E) :
  wpAny (model X.prog X.w) X.A (call (.ref C) us) (EP X pins σ Q) X.xe s:=by
 obtain ⟨nm,q,N,bs,hdct,sn,sub,ab,col,dd,k0,k1,k2,k3,k5,Bn,newId,inN,bmN,Fn,hBn,l,tx,ni⟩:=M.cls;obtain ⟨m,hm⟩:=pV I.kIn tx;have T:=M.tail I.kIn;obtain ⟨hz,h⟩:=h;have hq:=h (s.heap.objs.size+1) (I.hok.fresh (df _));have I2:=I.laid (a:=s.heap.objs.size+1) (o:=XN1 (s.heap.objs.size+1) C) (h':=mW s.heap C us) (t':=s.toks) (fun b u q=>jC q) (df _) (bI2 ⟨_,sV,rfl,rfl,_,rfl⟩);have r2:bN (V.ref (s.heap.objs.size+1) :: vs) (Value.ref (s.heap.objs.size+1) :: us):= .cons rfl r;have hl:(Value.ref (s.heap.objs.size+1) :: us++[]).length=ps.length:=by
  have e:=r2.length;rw [F.len _ _ _ _ hq] at e;rw [gj];exact e.symm
 have bd:=hb { s with heap:=mW s.heap C us } (Value.ref (s.heap.objs.size+1) :: us) I2.kIn hl;rw [gj] at bd;have run:=F.run _ X.stack _ _ ⟨Value.ref (s.heap.objs.size+1) :: us,[]⟩ (Value.ref (s.heap.objs.size+1) :: us) _ _ E (hr.make C us []) (I2.env0.make C us []) bd r2 hq;refine bB2 (h:=s.heap) Fn hBn qz T (I.kIn _ _ l) hm (aY3 I.kIn hm ni) (I.kIn _ _ lf) hof (by rw [<- r.length];exact hz) (on (lv run fun r s' hq'=>?_))
 cases r with
 |error e=>exact hx pins σ _ _ e s' I2 hq'
 |ok fl =>
  cases fl with
  |ret u =>
   obtain ⟨v,H',I3,rv,ev,q3⟩:=I2.after hq';subst ev;exact ⟨rv,⟨V.ref (s.heap.objs.size+1),H',I3,rfl,q3⟩⟩
  |next=>exact False.elim hq'
  |brk=>exact False.elim hq'
  |cont=>exact False.elim hq'
theorem aC4 {of:Obj}(M:XMk X.K C D (some (.ref f))) (lf:X.K.lookup f=some of) (hof:of.cls= .type "function") (F:jP X.prog X.w X.K X.mg X.base CX k f fd ps sp) (hr:eE (k+1) X.A) (hg:Gl X x) (hm:X.mg x=some (.ref C)) (hb:gQ X.K fd ps []) (hx:jH CX X E)
  (ha:PA X (e :: es) t) (hdb:autoParam ((x == ("__debug__": Str))=false) Rq1._auto_1) (he:autoParam (starEach (e :: es) X.env=(false,eval e X.env) :: starEach es X.env) Rq0._auto_1) (hpl:autoParam ((backTo pos (starEach es X.env)).any (·.1)=false) Rq0._auto_1) :
  PE X (.Call (.Name x p) (e :: es) [] pos) (aA1 C sp E t):=by
 intro pins s σ H Q I h;refine gu (pK I hg hm ?_ hdb);refine W.callWith_K (h₀:=X.base) I.ok.mod.kin M.kp (dJ (ha pos pins s σ H _ I h) ?_) he hpl;rintro us s1 ⟨vs,H1,I1,r,q⟩;refine ⟨I1.kIn,?_⟩;exact bA4 M lf hof F hr hb hx I1 r q
end
open PySem PySem.Spec PyProof.Rows PySem.W
def yO (h:Heap) (x C dx:Addr) (tb:Value):Prop:=∃ o vs,h.get? x=some o/\o.cls= .ref C/\o.dict=some dx/\o.data= .fields vs/\vs[1]?=some tb
def mI (h:Heap) (x T C dx:Addr) (fl:Value):Prop:=yO h x C dx (.ref T)/\T≠x/\∃ o ts,h.get? T=some o/\o.data= .fields ts/\ts[3]?=some fl
section
variable {M:Model}{A:Around}{E:Value->Shared->Prop}{s:Shared}{base:Heap}{env:Env}{outer:List Env}{L x T C dx:Addr}{Q:Unit->Shared->Prop}
theorem hG {fs:List Addr}{fl:Value}(hT:T∉fs) (F:mI s.heap x T C dx fl) (q:∀ h',Kp fs [T] s.heap h'->mI h' x T C dx .none->Q () { s with heap:=h' }):wpAny M A (setFlight (.ref x) .none) Q E s:=by
 obtain ⟨⟨o,vs,e1,e2,e3,e4,e5⟩,ne,oT,ts,f1,f2,f3⟩:=F;have sz:3 < ts.size:=(ku.mp f3).1;refine wpAny_setFlight_none e1 e4 e5 f1 f2 sz (q _ ⟨fun b u e _ n=>?_,fun b u e hb n=>⟨u.slots,?_⟩⟩ ⟨⟨o,vs,?_,e2,e3,e4,e5⟩,ne,_,_,eo _ f1 (jz (ij f2 _)),ij f2 _,?_⟩)
 ·rw [dw _ _ _ _ (by simpa using n)];exact e
 ·rw [dw _ _ _ _ (by simpa using n)];exact e
 ·rw [dw _ _ _ _ ne.symm];exact e1
 ·simp [sz]
theorem zP {head:Value}{hadNext:Bool}{tb:Value}(hA:A.frames=some (env :: outer)) (ff:s.heap.FunFrames base (env :: outer)) (hf:env.frame=some L) (ex:yO s.heap x C dx tb)
  (q:∀ h' T,Kp (jR (env :: outer)) [x] s.heap h'->s.heap.get? T= .none->T∉jR (env :: outer)->mI h' x T C dx (rawInt L)->Q () { s with heap:=h' }) :
  wpAny M A (do
   let a <- PySem.frameOf env
   let pl <- entryPlaceOf L hadNext
   let b <- EntryCells.newEntry head a Value.none (rawInt L) Value.none pl
   setField (Value.ref x) 1 b) Q E s:=by
 obtain ⟨o,vs,e1,e2,e3,e4,e5⟩:=ex;have nx:x∉jR (env :: outer):=fun z=>by
  obtain ⟨_,u,hu,hd⟩:=ff.mem z;rw [e1] at hu
  cases hu
  exact hd _ e4
 have sz:1 < vs.size:=(ku.mp e5).1;refine ac (wpAny_frameOf_fun hA ff hf fun h1 so=>?_);obtain ⟨z1,k1,sl1⟩:=so;refine ac (wpAny_entryPlaceOf fun pl hpl=>?_);refine ac (fj ?_ (hpl.sizeOk5 _ _ _ _ _));have ex1:(h1.push { cls:= .type "traceback",dict:= .none,data:= .fields ([head,Value.ref L,Value.none,rawInt L,Value.none]++if pl.isEmpty=true then List.replicate 6 Value.none else pl).toArray }).get? x=some o:=ah _ ((k1 x nx).trans e1);refine qh ex1 e4 sz ?_;have lt1:x < h1.objs.size:=aq ((k1 x nx).trans e1);have neT:h1.objs.size≠x:=jh lt1;have fT:s.heap.get? h1.objs.size= .none:=by rw [z1];exact oj (ai _)
 refine q _ h1.objs.size ⟨fun b u e hn n=>?_,fun b u e hb n=>?_⟩ fT (fun z=>?_) ⟨⟨_,_,eo _ ex1 (jz (ij e4 _)),(xo ..).trans e2,?_,ij e4 _,by simp [sz]⟩,neT,{ cls:= .type "traceback",dict:= .none,data:= .fields ([head,Value.ref L,Value.none,rawInt L,Value.none]++if pl.isEmpty=true then List.replicate 6 Value.none else pl).toArray },_,?_,rfl,?_⟩
 ·rw [dw _ _ _ _ (by simpa using n)];exact ah _ ((k1 b hn).trans e)
 ·obtain ⟨sl,e'⟩:=sl1 b u e;refine ⟨sl,?_⟩;rw [dw _ _ _ _ (by simpa using n)];exact ah _ e'
 ·obtain ⟨_,u,hu,_⟩:=ff.mem z;rw [fT] at hu
  cases hu
 ·obtain ⟨c,d,da,sl⟩:=o
  dsimp only at e3 e4
  subst e3 e4;rfl
 ·rw [dw _ _ _ _ neT];exact br _ rfl
 ·simp
theorem aD9 (hA:A.frames=some (env :: outer)) (ff:s.heap.FunFrames base (env :: outer)) (hf:env.frame=some L) (ex:yO s.heap x C dx .none)
  (q:∀ h' T,Kp (jR (env :: outer)) [x] s.heap h'->s.heap.get? T= .none->T∉jR (env :: outer)->mI h' x T C dx (rawInt L)->Q () { s with heap:=h' }):wpAny M A (noteFrame (.ref x) env) Q E s:=by
 obtain ⟨o,vs,e1,e2,e3,e4,e5⟩:=id ex;unfold noteFrame;rw [hf];refine ac (im e1 e4 e5 ?_);rw [ar (by simp)];exact zP hA ff hf ex q
theorem vM (hA:A.frames=some (env :: outer)) (ff:s.heap.FunFrames base (env :: outer)) (hf:env.frame=some L) (hT:T∉jR (env :: outer)) (F:mI s.heap x T C dx .none)
  (q:∀ h' T',Kp (jR (env :: outer)) [x,T] s.heap h'->s.heap.get? T'= .none->T'∉jR (env :: outer)->mI h' x T' C dx (rawInt L)->Q () { s with heap:=h' }):wpAny M A (noteFrame (.ref x) env) Q E s:=by
 obtain ⟨⟨o,vs,e1,e2,e3,e4,e5⟩,ne,oT,ts,f1,f2,f3⟩:=id F;have sz:3 < ts.size:=(ku.mp f3).1;unfold noteFrame;rw [hf];refine ac (im e1 e4 e5 ?_);rw [bc (by simp)];refine ac (im f1 f2 f3 ?_);rw [ar (by simp [rawInt])];refine ac (qh f1 f2 sz ?_);have k1:Kp (jR (env :: outer)) [T] s.heap (s.heap.update T (Obj.mapFields fun y=>y.setIfInBounds 3 Value.none)):=⟨fun b u e _ n=>by rw [dw _ _ _ _ (by simpa using n)];exact e,fun b u e hb n=>⟨u.slots,by rw [dw _ _ _ _ (by simpa using n)];exact e⟩⟩
 have x1:(s.heap.update T (Obj.mapFields fun y=>y.setIfInBounds 3 Value.none)).get? x=some o:=by rw [dw _ _ _ _ ne.symm];exact e1
 have n1:∀ b,s.heap.get? b≠ .none->(s.heap.update T (Obj.mapFields fun y=>y.setIfInBounds 3 Value.none)).get? b≠ .none:=fun b hb=>by
  by_cases c:b=T
  ·subst c;rw [eo _ f1 (jz (ij f2 _))];simp
  ·rw [dw _ _ _ _ c];exact hb
 have ff1:(s.heap.update T (Obj.mapFields fun y=>y.setIfInBounds 3 Value.none)).FunFrames base (env :: outer):=aY4 ff fun b hb u e=>k1.f b u e hb (by simpa using fun z:b=T=>hT (z ▸ hb))
 generalize s.heap.update T (Obj.mapFields fun y=>y.setIfInBounds 3 Value.none)=h1 at k1 x1 n1 ff1 ⊢;refine zP (s:={ s with heap:=h1 }) (tb:= .ref T) hA ff1 hf ⟨o,vs,x1,e2,e3,e4,e5⟩ fun h' T' k2 t1 t2 F2=>q h' T' ((k1.mono (by simp)).trans (k2.mono (by simp))) ?_ t2 F2
 cases z:s.heap.get? T' with
 |none=>rfl
 |some u=>exact absurd t1 (n1 T' (by rw [z];simp))
end
def oY (P:Program) (w:World):CXT:=fun outer H s E e s'=>∃ (x T C dx:Addr) (H':Hp),e= .ref x/\s'.os=s.os/\AllBare s'.gens/\Un (jR outer) [] H H' s.heap s'.heap/\jA P w H' s'.heap /\
 s.heap.get? x= .none/\s.heap.get? T= .none/\H' x= .none/\H' T= .none/\mI s'.heap x T C dx .none/\E (.ref C) (some dx) H'
def rem (H:Hp) (x:Addr):Hp:=fun b=>if b=x then .none else H b
theorem nE {H:Hp}{x:Addr}:rem H x x= .none:=bc rfl
theorem nY {H:Hp}{x b:Addr}(h:b≠x):rem H x b=H b:=ar h
section
variable {X:Cx}{pins:List (Addr×Obj)}{σ: St}{H:Hp}{s:Shared}
theorem bC.hokR (I:bC X pins σ H s) {h':Heap}{ch:List Addr}{x C dx:Addr}(hx:H x=some (zQ x C dx)) (k:Kp (jR X.stack) ch s.heap h') (n:∀ b∈ch,b=x\/H b= .none):jA X.prog X.w (rem H x) h':=fun b u e=>by
 have bx:b≠x:=fun z=>by rw [z,nE] at e;cases e
 rw [nY bx] at e;have nf:∀ c v,H c=some v->c≠x->c∉jR X.stack/\c∉ch:=fun c v e cx=>⟨fun z=>(by rw [I.stkFree c z] at e;cases e),fun z=>(by
  rcases n c z with q | q
  ·exact cx q
  ·rw [q] at e;cases e)⟩
 refine (I.hok b u e).stay (fun c v hc q=>?_) (fun c q=>?_) fun c xs q=>?_
 ·rcases hc with z | z
  ·rw [z] at q ⊢;exact k.k _ _ q (nf b u e bx).1 (nf b u e bx).2
  ·have cx:c≠x:=fun zz=>by rw [zz,hx] at z;cases z
   exact k.k _ _ q (nf c _ z cx).1 (nf c _ z cx).2
 ·rw [nY (fun zz=>by rw [zz,hx] at q;cases q)];exact q
 ·rw [nY (fun zz=>by rw [zz,hx] at q;cases q)];exact q
theorem wN {E:XK}{x C dx:Addr}{E':Value->Shared->Prop}(I:bC X pins σ H s) (hs:X.stack=X.env :: X.outer) (hf:X.env.frame=some X.env.locals) (hex:X.ex=[]) (hx:H x=some (zQ x C dx)) (h0:X.H₀ x= .none) (hE:E (.ref C) (some dx) (rem H x)) :
  wpAny (model X.prog X.w) X.A (leaving X.env (.ref x)) (fun _ s''=>oY X.prog X.w X.outer X.H₀ X.s₀ E (.ref x) s'') E' s:=by
 have ff:=I.stack;rw [hs] at ff;obtain ⟨o,e1,e2,e3,t,e4⟩:=uK I hx;unfold leaving;refine ac (aD9 (by rw [I.ok.frames,hs]) ff hf ⟨o,_,e1,e2,e3,e4,rfl⟩ fun h2 T k1 t1 t2 F=>?_);refine hG (s:={ s with heap:=h2 }) t2 F fun h3 k2 F3=>?_
 rw [<- hs] at k1 k2 t2;have hT:H T= .none:=jA.none I.hok t1;have kk:Kp (jR X.stack) [x,T] s.heap h3:=(k1.mono (by simp)).trans (k2.mono (by simp));have sx:X.s₀.heap.get? x= .none:=by
  cases q:X.s₀.heap.get? x with
  |none=>rfl
  |some o'=>have:=I.base.free x o' q h0 (by rw [hex];simp);rw [hx] at this;cases this
 have sT:X.s₀.heap.get? T= .none:=by
  cases q:X.s₀.heap.get? T with
  |none=>rfl
  |some o' =>
   obtain ⟨o2,z⟩:=I.base.there T o' q (by rw [hex];simp);rw [t1] at z
   cases z
 have neL:∀ b o,X.s₀.heap.get? b=some o->b≠X.env.locals:=fun b o e=>cg (bv (aq e) I.ok.above)
 have nch:∀ b o,X.s₀.heap.get? b=some o->b∉[x,T]:=fun b o e z=>by
  simp only [List.mem_cons,List.not_mem_nil,or_false] at z;rcases z with z | z
  ·rw [z,sx] at e;cases e
  ·rw [z,sT] at e;cases e
 have hrem:∀ b,b≠x->rem H x b=H b:=fun b n=>nY n
 refine ⟨x,T,C,dx,rem H x,rfl,I.os,I.bare,⟨fun b o e hn nb _=>?_,fun b o e hn hb _=>?_,fun b o e hn hx'=>?_,fun b o e _=>?_,fun b xs e=>?_,fun b o u e=>?_,fun b ps e=>?_⟩,I.hokR hx kk (fun b hb=>?_),sx,sT,nE,?_,F3,hE⟩
 ·have e1:=I.base.keep b o e hn nb (by rw [hex];simp);exact kk.k b o e1 (fun z=>by
   rcases (gD hs hf).mp z with z | z
   ·exact neL b o e z
   ·exact nb z) (nch b o e)
 ·obtain ⟨sl,e1⟩:=I.base.slot b o e hn hb (by rw [hex];simp);obtain ⟨sl',e2⟩:=kk.f b _ e1 ((gD hs hf).mpr (.inr hb)) (nch b o e);exact ⟨sl',e2⟩
 ·by_cases c:b=x
  ·rw [c];exact nE
  ·rw [hrem b c];exact I.base.free b o e hn (by rw [hex];simp)
 ·obtain ⟨o',e1⟩:=I.base.there b o e (by rw [hex];simp);obtain ⟨sl,e2⟩:=kk.any e1 (nch b o e);exact ⟨_,e2⟩
 ·have z:=I.base.tups b xs e;rw [hrem b (fun c=>by rw [c,hx] at z;cases z)];exact z
 ·have z:=I.base.frzs b o u e;rw [hrem b (fun c=>by rw [c,hx] at z;cases z)];exact z
 ·obtain ⟨more,z⟩:=I.base.tbls b ps e;exact ⟨more,by rw [hrem b (fun c=>by rw [c,hx] at z;cases z)];exact z⟩
 ·simp only [List.mem_cons,List.not_mem_nil,or_false] at hb;rcases hb with rfl | rfl
  ·exact .inl rfl
  ·exact .inr hT
 ·by_cases c:T=x
  ·rw [c];exact nE
  ·rw [hrem T c];exact hT
end
section
variable {M:Model}{A:Around}{E:Value->Shared->Prop}{env:Env}
variable {nm q:Str}{C N:Addr}{bs bm:List Value}{hdct:Bool}{sn:List Str}{sub:List Value}{ab:Bool}{col:Option Bool}{dd:Option Addr}{k0 k1 k2 k3 k5:Option Value}{newId:String}
theorem aR9 {s:Shared}{x:Sem Value}{Q:Flow->Shared->Prop}(hbase:bm.contains (.type "BaseException")=true) (hh:A.handled=none)
  (h:wpAny M A x (fun v s₁=>∃ e o t,v= .ref e/\s₁.heap.get? C=some (excClassObj nm q C N bs bm hdct sn sub ab col dd k0 k1 k2 k3 k5 newId) /\
   s₁.heap.get? e=some o/\o.cls= .ref C/\o.data= .fields #[.ref t,.none,.none,.none,.bool false,.none]/\E (.ref e) s₁) E s) :
  wpAny M A (raiseStmt env (some x) none) Q E s:=by
 have hcB:(Value.ref C :: bm).contains (.type "BaseException")=true:=by rw [xb,hbase,Bool.or_true]
 unfold raiseStmt;refine ac (di h (fun v s₁ h₁=>?_) fun _ _ x=>x);obtain ⟨e,o,t,rfl,hC,he,hc,hd,hE⟩:=h₁;obtain ⟨oc,od,odt,osl⟩:=o
 dsimp only at hc hd
 subst hc hd;obtain ⟨hp,g,d,tk,os⟩:=s₁
 repeat (first | with_reducible refine jv he ?_ | with_reducible refine jv hC ?_ | (with_reducible refine we hC ?_;rw [hcB]) | wp_step)
 exact wpAny_raiseNew_none hh hE
end
theorem aD4 {P:Program}{w:World}{K:W.Frag}{mg:Str->Option Value}{base:Heap}{N:List Str}{qual:Str}{scope:Scope}{f:Addr}{cd:Value}{A:Around}{outer:List Env}{s:Shared}{H:Hp}{E:XK}
  {C D:Addr}{i:Option Value}{e:Expr}{te:TE}{pos:Pos}(M:XMk K C D i) (he:PE (gO (oY P w) P w K mg base N qual scope f cd A outer s H E) e te) :
  PS (gO (oY P w) P w K mg base N qual scope f cd A outer s H E) (.Raise (some e) .none pos) (fun _ σ H1=>te σ H1 fun v H2=>∃ x dx,v= .ref x/\H2 x=some (zQ x C dx)/\H x= .none/\E (.ref C) (some dx) (rem H2 x)):=by
 intro pins s1 σ H1 D' I h;obtain ⟨nm',q,Nn,bs,hdct,sn,sub,ab,col,dd,k0,k1,k2,k3,k5,Bn,newId,inN,bmN,eb,hc,hl,tx,ni⟩:=M.cls;have hh:(A.deeper (envOfC qual scope s.heap.objs.size f cd)).handled= .none:=I.ok.hd rfl;rw [arm_exec_Raise];refine ac (nj (aR9 (C:=C) (nm:=nm') (q:=q) (N:=Nn) (bs:=bs) (bm:= .ref D :: veB) (hdct:=hdct) (sn:=sn) (sub:=sub) (ab:=ab) (col:=col) (dd:=dd) (k0:=k0) (k1:=k1) (k2:=k2) (k3:=k3) (k5:=k5) (newId:=newId) (by rw [xb,show veB.contains (Value.type "BaseException")=true by decide,Bool.or_true]) hh ?_));refine ac (di (he pins s1 σ H1 _ I h) (fun v s2 z=>ac (nj (ao ?_))) fun _ _ z=>z);obtain ⟨y,H2,I2,r,x,dx,rfl,hx,h0,hE⟩:=z;obtain rfl:v= .ref x:=r;obtain ⟨o,e1,e2,e3,t,e4⟩:=uK I2 hx;exact ⟨x,o,t,rfl,I2.kIn _ _ hl,e1,e2,e4,wN I2 rfl rfl rfl hx h0 hE⟩
theorem aQ3 {M:Model}{A:Around}{E:Value->Shared->Prop}{s:Shared}{K:PySem.W.Frag}{x C D T:Addr}{o:Obj}{Q:Bool->Shared->Prop}(kin:K.In s.heap) (U:XUp K T) (W:dU K C D) (hT:T=C\/T=D) (e1:s.heap.get? x=some o) (e2:o.cls= .ref C) (q:Q true s):wpAny M A (excMatches (.ref x) (.ref T)) Q E s:=by
 unfold excMatches;refine ac ?_;unfold isInstance;refine ac ((looks_typeIn kin U.ty).here ((looks_subIn kin yH).here ?_));rw [ar (by simp)];refine ac (ao ?_);refine ac ?_;rw [ub];refine ac ?_;unfold isExcClass;refine ac (ac ((aV3 U.cl kin).here ?_));rw [bc rfl];refine (looks_subIn kin U.be).here ?_;rw [ar (by simp)];refine ao ?_
 dsimp only
 rw [List.forIn_nil];refine ao (ac (wpAny_typeOf_ref e1 ?_));rw [e2];refine ac ?_;rw [ub];refine ac (ac ((looks_subIn kin (W.subIn (.ref T))).here ?_));rw [bc (by rcases hT with h | h <;> simp [wZ,h])];exact ao (ao (ao q))
section
variable {X:Cx}
def bO5 (K:W.Frag) (T:Addr) (i l:Nat) (tb:XK->TS) (th:TS):TS:=fun Dn σ H =>
 tb (fun cls od H'=>∃ C D dx,cls= .ref C/\od=some dx/\dU K C D/\(T=C\/T=D)/\∀ (σ':St) (x:Addr),σ'.length=l->H' x= .none ->
  th { nx:=fun σ2 H2=>Dn.nx (σ2.set i .none) H2,rt:=Dn.rt } (σ'.set i (some (.ref x))) (aJ H' x (XD x C dx))) Dn σ H
theorem aO5 {i:Nat}{n nmT:Str}{Tc:Addr}{body suite:List Stmt}{b0:Stmt}{np hpos pos:Pos}{tb:XK->TS}{th:TS}(hs:X.stack=X.env :: X.outer) (hf:X.env.frame=some X.env.locals) (hex:X.ex=[]) (hN:X.N.Nodup) (hi:X.N[i]?=some n)
  (hl:X.env.scope.names.lookup n=some .local) (hk:X.env.kindOf n=some .local) (hg:Gl X nmT) (hm:X.mg nmT=some (.ref Tc)) (U:XUp X.K Tc)
  (hb:∀ (Ex:Value->Shared->Prop) (E1:XK),jH (oY X.prog X.w) (X.wish Ex) E1->oN (X.wish Ex) body (tb E1)) (hh:∀ x,oN (X.hand x) (b0 :: suite) th) (hdb:autoParam ((nmT == ("__debug__": Str))=false) Rq1._auto_1) :
  PS0 X (.Try body [.ExceptHandler (some (.Name nmT np)) (some n) (b0 :: suite) hpos] [] [] pos) (bO5 X.K Tc i X.N.length tb th):=by
 intro s σ H Dn I h;have kf:=I.ok.kind;refine wpAny_Try_except ?_;refine di (hb (fun e s₁=>wpAny (model X.prog X.w) X.A (noteFrame e X.env) (fun _ s₂=>wpAny (model X.prog X.w) X.A (setFlight e .none) (fun _ s₃=>wpAny (model X.prog X.w) X.A (handleBy e X.env [.ExceptHandler (some (.Name nmT np)) (some n) (b0 :: suite) hpos]) (SP X [] Dn) X.xe s₃) X.xe s₂) X.xe s₁) _ ?_ [] s σ H Dn (I.wish _) h) (fun f s1 q=>?_) fun _ _ z=>z
 ·intro pins' σ' H1 s1 e s2 I1 cx;obtain ⟨x,T,C,dx,H2,rfl,os,bare,un,hok,nx,nT,hx,hT,F,C',D',dx',eC,eD,W,hcd,q⟩:=cx
  cases eC
  cases eD
  have J1:bC X [] σ' H1 s1:=I1.unwish.nopins;have ax:=J1.away hex nx;have aT:=J1.away hex nT;have J2:bC X [] σ' H2 s2:=J1.call' os un hok bare fun b z=>absurd z (by simp)
  have fr2:=J2.stack;rw [hs] at fr2;have tf:=aT.fr;rw [hs] at tf;show wpAny _ _ (noteFrame (.ref x) X.env) _ _ s2;refine vM (s:=s2) (outer:=X.outer) (by rw [J2.ok.frames,hs]) fr2 hf tf F fun h3 T3 k3 t3 t3' F3=>?_
  refine hG (s:={ s2 with heap:=h3 }) t3' F3 fun h4 k4 F4=>?_
  have a3:=J2.away hex t3;rw [<- hs] at k3 k4;have k34:Kp (jR X.stack) [x,T,T3] s2.heap h4:=(k3.mono (by simp)).trans (k4.mono (by simp));have hT3:H2 T3= .none:=jA.none J2.hok t3;have cl:∀ b∈[x,T,T3],H2 b= .none:=fun b hb=>by
   simp only [List.mem_cons,List.not_mem_nil,or_false] at hb;rcases hb with rfl | rfl | rfl
   ·exact hx
   ·exact hT
   ·exact hT3
  have aw:∀ b∈[x,T,T3],bB5 X [] b:=fun b hb=>by
   simp only [List.mem_cons,List.not_mem_nil,or_false] at hb;rcases hb with rfl | rfl | rfl
   ·exact ax
   ·exact aT
   ·exact a3
  have J4:bC X [] σ' H2 { s2 with heap:=h4 }:=J2.move hs hf hex aw k34 (fun b _=>rfl) cl (J2.hokK k34 cl);refine wpAny_handleBy_cons ?_ (fun z=>nomatch z);refine codeAny_handlers_test (pK (X:=X.hand x) (J4.hand x) hg hm ?_ hdb);obtain ⟨⟨oF,vF,f1,f2,f3,f4,f5⟩,f6⟩:=id F4;refine aQ3 (s:={ s2 with heap:=h4 }) J4.kIn U W hcd f1 f2 ?_;refine codeAny_handlers_suite_as ?_;refine hG (s:={ s2 with heap:=h4 }) (fs:=jR X.stack) a3.fr F4 fun h5 k5 F5=>?_
  have J5:bC X [] σ' H2 { s2 with heap:=h5 }:=J4.move hs hf hex (ch:=[T3]) (fun b hb=>aw b (by simp at hb ⊢;exact .inr (.inr hb))) k5 (fun b _=>rfl) (fun b hb=>cl b (by simp at hb ⊢;exact .inr (.inr hb))) (J4.hokK k5 fun b hb=>cl b (by simp at hb ⊢;exact .inr (.inr hb)));obtain ⟨⟨o,vs,e1,e2,e3,e4,e5⟩,_⟩:=F5;have xn:∃ o,h5.get? x=some o/\o.cls= .ref C/\notCls o=true/\o.dict=some dx:=⟨o,e1,e2,by unfold notCls;rw [e4],e3⟩
  have hok6:jA X.prog X.w (aJ H2 x (XD x C dx)) h5:=fun b u eb=>by
   by_cases c:b=x
   ·subst c;rw [aC] at eb
    cases eb
    exact bT8 xn
   ·rw [aH c] at eb;refine (J5.hok b u eb).stay (fun _ _ _ q=>q) (fun cc q=>?_) fun cc xs q=>?_
    ·rw [aH (fun z=>by rw [z,hx] at q;cases q)];exact q
    ·rw [aH (fun z=>by rw [z,hx] at q;cases q)];exact q
  have J6:bC X [] σ' (aJ H2 x (XD x C dx)) { s2 with heap:=h5 }:=J5.move hs hf hex (ch:=[x]) (fun b hb=>aw b (by simp at hb ⊢;exact .inl hb)) (Kp.mono (Kp.kept fun _ _ e=>e) (by simp)) (fun b hb=>aH (by simpa using hb)) (fun b hb=>cl b (by simp at hb ⊢;exact .inl hb)) hok6;refine gJ (v:= .ref x) J6 hN hi (.inl hl) rfl (fun s7 J7=>?_) (.inr hl);refine di (hh x [] s7 _ _ _ (J7.hand x) (q σ' x J6.len hx)) (fun f s8 q8=>?_) fun _ _ z=>z.elim
  have done:∀ (σ2:St) (H8:Hp),bC X [] σ2 H8 s8->∀ {Q:Unit->Shared->Prop}{E:Value->Shared->Prop},(∀ s9,bC X [] (σ2.set i .none) H8 s9->Q () s9)->wpAny (model X.prog X.w) X.A (do bindName X.env n Value.none;unbindBehindTheSuite X.env n hpos) Q E s8:=fun σ2 H8 J8 Q E q9=>by
   refine ac (qf (gJ (v:= .non) J8 hN hi (.inl hl) rfl (fun s9 J9=>?_) (.inr hl)));unfold unbindBehindTheSuite;obtain ⟨m,hm9,lk⟩:=J9.loc;have il:i < σ2.length:=by rw [J8.len];exact (az.mp hi).1
   obtain ⟨u,ru,lk1⟩:=lk i n .non hi (by rw [na il]) (.inl hl);have mn:m n=some u:=by
    rcases lk1 with ⟨_,z⟩ | ⟨z,_⟩
    ·exact z
    ·rw [hk] at z;rcases z with z | z <;> cases z
   refine wpAny_onRaise (wpAny_unbindName_local hk hm9 mn (by rw [kf];rfl) fun h9 u9 ns9 sb9=>?_);have:=J9.unset hN hi hk lk ns9 sb9;rw [List.set_set] at this;exact q9 _ this
  cases f with
  |next =>
   obtain ⟨σ2,H8,J8,z⟩:=q8;exact done σ2 H8 (J8.unhand J6.ok) fun s9 J9=>⟨_,H8,J9,z⟩
  |ret v =>
   obtain ⟨w',σ2,H8,J8,r,z⟩:=q8;exact done σ2 H8 (J8.unhand J6.ok) fun s9 J9=>⟨w',_,H8,J9,r,z⟩
  |brk =>
   obtain ⟨_,_,_,z⟩:=q8;exact z.elim
  |cont =>
   obtain ⟨_,_,_,z⟩:=q8;exact z.elim
 ·have q:=SP.unwish q
  cases f with
  |next=>exact lh q
  |ret v=>exact q
  |brk=>exact q
  |cont=>exact q
end
section
variable {X:Cx}{f:Str}
def bI5 (K:W.Frag) (ta tv:TE) (f:Str):TS:=fun D σ H=>tv σ H fun y H1=>ta σ H1 fun x H2=>∃ a C B dx fs,x= .ref a/\dU K C B/\mB K C f/\H2 a=some (zQ a C dx)/\H2 dx=some (XM dx fs)/\fs.length<=100/\D.nx σ (aJ H2 dx (XM dx (oQ f y fs)))
theorem aN6 {o value:Expr}{pos pos':Pos}{ta tv:TE}(ha:PE X o ta) (hv:PE X value tv) (hs:swapsWith value (some (.Attribute o f pos')) pos.line X.env=pure false):PS X (.Assign [.Attribute o f pos'] value pos) (bI5 X.K ta tv f):=by
 intro pins s σ H Dn I h;refine oi (dJ (hv pins s σ H _ I h) ?_) hs;rintro u s1 ⟨y,H1,I1,ry,q⟩;refine dJ (ha pins s1 σ H1 _ I1 q) ?_;rintro ov s2 ⟨x,H2,I2,rx,a,C,B,dx,fs,ex,W,n,ea,ed,hl,q2⟩;subst ex;obtain rfl:ov=Value.ref a:=rx;obtain ⟨o',h1,h2,h4,tt,h5⟩:=uK I2 ea;have h3:PySem.W.notCls o'=true:=by unfold PySem.W.notCls;rw [h5]
 obtain ⟨mA,nd,r,wi⟩:=aH3 I2 ed;have hz:(fs.map (·.1)).length<=sizeLine:=by rw [aa,jf];(exact oqf)
 refine bT5 I2.kIn h1 h2 h3 h4 nd W n wi hz fun h' n1 sb=>?_
 obtain ⟨oD,eD,pD,hoD,rD⟩:=id n1;refine ⟨σ,_,I2.write (x:=dx) (e:=dx) (o:=XM dx (oQ f y fs)) (by rw [ed];exact gi) (.inl rfl) (fun b u hb q=>(sb.2 b hb).trans q) ⟨_,hoD⟩ (aI8 ⟨_,n1,fun g=>?_,fun g hg=>?_⟩),q2⟩
 ·show kW ((oQ f y fs).lookup g) (if g=f then some u else mA g);rw [oG]
  by_cases z:g=f
  ·rw [bc z,bc z];exact ry
  ·rw [ar z,ar z];exact r g
 ·by_cases z:g=f
  ·rw [z];exact (nR f y fs).1
  ·exact (nR f y fs).2 g (wi g fun c=>hg ((ar z).trans c))
end
section
variable {P:Program}{w:World}{K:W.Frag}{mg:Str->Option Value}{base:Heap}{N:List Str}{qual:Str}{scope:Scope}{f:Addr}{cd:Value}{A:Around}{outer:List Env}{s0:Shared}{H0:Hp}{E:XK}
theorem aN5:jH (oY P w) (gO (oY P w) P w K mg base N qual scope f cd A outer s0 H0 E) E:=by
 intro pins σ H1 s1 e s2 I1 cx;obtain ⟨x,T,C,dx,H2,rfl,os,bare,un,hok,nx,nT,hx,hT,F,hE⟩:=cx;generalize hX:gO (oY P w) P w K mg base N qual scope f cd A outer s0 H0 E=X at I1 un;have hs:X.stack=X.env :: X.outer:=by rw [<- hX];rfl
 have hf:X.env.frame=some X.env.locals:=by rw [<- hX];rfl
 have hex:X.ex=[]:=by rw [<- hX];rfl
 have J1:bC X [] σ H1 s1:=I1.nopins;have ax:=J1.away hex nx;have aT:=J1.away hex nT;have hok':jA X.prog X.w H2 s2.heap:=by rw [<- hX];exact hok
 have J2:bC X [] σ H2 s2:=J1.call' os un hok' bare fun b z=>absurd z (by simp)
 have fr2:=J2.stack;rw [hs] at fr2;have tf:=aT.fr;rw [hs] at tf;have goal:wpAny (model X.prog X.w) X.A (leaving X.env (.ref x)) (fun _ s''=>oY X.prog X.w X.outer X.H₀ X.s₀ E (.ref x) s'') (fun e' s''=>oY X.prog X.w X.outer X.H₀ X.s₀ E e' s'') s2:=by
  unfold leaving;refine ac (vM (s:=s2) (outer:=X.outer) (by rw [J2.ok.frames,hs]) fr2 hf tf F fun h3 T3 k3 t3 t3' F3=>?_);refine hG (s:={ s2 with heap:=h3 }) t3' F3 fun h4 k4 F4=>?_
  rw [<- hs] at k3 k4;have kk:Kp (jR X.stack) [x,T,T3] s2.heap h4:=(k3.mono (by simp)).trans (k4.mono (by simp));have hT3:H2 T3= .none:=jA.none J2.hok t3;have a3:=J2.away hex t3;have cl:∀ b∈[x,T,T3],H2 b= .none:=fun b hb=>by
   simp only [List.mem_cons,List.not_mem_nil,or_false] at hb;rcases hb with rfl | rfl | rfl
   ·exact hx
   ·exact hT
   ·exact hT3
  have sx:X.s₀.heap.get? x= .none:=ax.s0;have sT:X.s₀.heap.get? T= .none:=aT.s0;have s3:X.s₀.heap.get? T3= .none:=a3.s0;have neL:∀ b o,X.s₀.heap.get? b=some o->b≠X.env.locals:=fun b o e=>cg (bv (aq e) J2.ok.above)
  have nch:∀ b o,X.s₀.heap.get? b=some o->b∉[x,T,T3]:=fun b o e z=>by
   simp only [List.mem_cons,List.not_mem_nil,or_false] at z;rcases z with z | z | z
   ·rw [z,sx] at e;cases e
   ·rw [z,sT] at e;cases e
   ·rw [z,s3] at e;cases e
  refine ⟨x,T3,C,dx,H2,rfl,J2.os,J2.bare,⟨fun b o e hn nb _=>?_,fun b o e hn hb _=>?_,fun b o e hn hx'=>?_,fun b o e _=>?_,J2.base.tups,J2.base.frzs,J2.base.tbls⟩,J2.hokK kk cl,sx,s3,hx,hT3,F4,hE⟩
  ·have e1:=J2.base.keep b o e hn nb (by rw [hex];simp);exact kk.k b o e1 (fun z=>by
    rcases (gD hs hf).mp z with z | z
    ·exact neL b o e z
    ·exact nb z) (nch b o e)
  ·obtain ⟨sl,e1⟩:=J2.base.slot b o e hn hb (by rw [hex];simp);obtain ⟨sl',e2⟩:=kk.f b _ e1 ((gD hs hf).mpr (.inr hb)) (nch b o e);exact ⟨sl',e2⟩
  ·exact J2.base.free b o e hn (by rw [hex];simp)
  ·obtain ⟨o',e1⟩:=J2.base.there b o e (by rw [hex];simp);obtain ⟨sl,e2⟩:=kk.any e1 (nch b o e);exact ⟨_,e2⟩
 rw [<- hX] at goal ⊢;exact goal
theorem aB6 {X:Cx}:jH (oY P w) X E0:=fun _ _ _ _ _ _ _ h=>by
 obtain ⟨_,_,_,_,_,_,_,_,_,_,_,_,_,_,_,z⟩:=h;exact z.elim
end
section
variable {P:Program}{w:World}{K:W.Frag}{mg:Str->Option Value}{base:Heap}
theorem oP.okY {x qual:Str}{st:Stmt}{f:Addr}{fd:FuncData}{N ps:List Str}{k:Nat}{sp:Sp}(F:oP K x qual st f fd) (S:gG N ps (aZ st)) (len:∀ vs H Q E,sp vs H Q E->vs.length=ps.length)
  (hbody:∀ (cdv:Value) (A:Around) (outer:List Env) (s:Shared) (H:Hp) (vs:List V) (Q:VK) (E:XK),eE k (A.deeper (envOfC qual (aZ st) s.heap.objs.size f cdv))->sp vs H Q E ->
   ∃ t,oN (gO (oY P w) P w K mg base N qual (aZ st) f cdv A outer s H E) (cH st) t/\t { nx:=fun _ H'=>Q .non H',rt:=Q } (iJ N vs) H):jP P w K mg base (oY P w) (k+1) f fd ps sp:=by
 obtain ⟨oc,od,kV,doc,pm,an,cdv,ct,osl,rfl,lk,hcd⟩:=F.ex;exact aX0 lk hcd S len fun A outer s H vs Q E hr hsp=>hbody cdv A outer s H vs Q E hr hsp
end
open PySem PySem.Spec PyProof.Rows PySem.MeetsSeq
theorem aF9:fillsNumberSlot (.type "tuple") "mul"=pure false :=
 PySem.fillsNumberSlot_seq (id:="tuple.__mul__") (r:=some (.builtin "tuple.__rmul__")) PySem.F.slot_tuple_mul.lookup (by decide +kernel) PySem.F.slot_tuple_rmul.lookup (by decide +kernel)
theorem aT7:seqRepeat? (.type "tuple")=pure (some (.builtin "tuple.__mul__")):=by
 unfold seqRepeat?;rw [yj (T:="tuple") (name:="__mul__") (id:="tuple.__mul__") PySem.F.slot_tuple_mul.lookup (by decide +kernel)]
 try rw [yj (T:="tuple") (name:="__rmul__") (id:="tuple.__rmul__") PySem.F.slot_tuple_rmul.lookup (by decide +kernel)]
 rfl
theorem aO4 (a:Int) (t:Tok) (l:Addr) (its:Array Value) (n:Nat) (dd:Option Addr) (sl:Array (Option Value)) :
  Meets (Builtin.«int.__rmul__» ⟨[.int a t,.ref l],[]⟩) (fun _ R s=>s.heap.get? l=some { cls:= .type "tuple",dict:=dd,data:= .seq its n,slots:=sl }/\R (.ok (.ret Value.notImplemented)) s) :=
 .of_wp fun prog w A R s h=>by
  obtain ⟨hp,g,d,tk,os⟩:=s;obtain ⟨hl,h⟩:=h
  wp_walk
  exact ⟨_,rfl,h⟩
theorem aO3 (a:Int) (t:Tok) (l:Addr) (v:Value) (n:Nat) (dd:Option Addr) (sl:Array (Option Value)) (h1:¬ a < -(2 ^ 63)) (h2:¬ a ≥ 2 ^ 63) (h3:a=1) :
  Meets (Builtin.«tuple.__mul__» ⟨[.ref l,.int a t],[]⟩) (fun _ R s=>s.heap.get? l=some { cls:= .type "tuple",dict:=dd,data:= .seq #[v] n,slots:=sl }/\R (.ok (.ret (.ref l))) s) :=
 .of_wp fun prog w A R s h=>by
  obtain ⟨hp,g,d,tk,os⟩:=s;obtain ⟨hl,h⟩:=h;subst h3
  wp_walk using dv hl
  exact ⟨_,rfl,h⟩
theorem aJ9 (a:Int) (t:Tok) (l:Addr) (v:Value) (n:Nat) (dd:Option Addr) (sl:Array (Option Value)) (h0:a<=0) (h1:¬ a < -(2 ^ 63)) :
  Meets (Builtin.«tuple.__mul__» ⟨[.ref l,.int a t],[]⟩) (fun _ R s=>s.heap.get? l=some { cls:= .type "tuple",dict:=dd,data:= .seq #[v] n,slots:=sl }/\R (.ok (.ret (.ref s.heap.objs.size))) { s with heap:=s.heap.push { cls:= .type "tuple",data:= .seq #[] } }) :=
 .of_wp fun prog w A R s h=>by
  obtain ⟨hp,g,d,tk,os⟩:=s;obtain ⟨hl,h⟩:=h;have c1:¬ (a < -(2 ^ 63) || a ≥ 2 ^ 63)=true:=by simp only [Bool.or_eq_true,decide_eq_true_eq];lia
  have c2:¬ (#[v].isEmpty || a == 1)=true:=by simp;lia
  have c3:(decide (a<=0) || #[v].isEmpty)=true:=by simp;assumption
  wp_walk using dv hl
  rw [ar c1]
  wp_walk using dv hl
  rw [ar c2]
  wp_walk using dv hl
  exact ⟨_,rfl,h⟩
theorem aI1 (a:Int) (t:Tok) (l:Addr) (v:Value) (n:Nat) (dd:Option Addr) (sl:Array (Option Value)) (h0:2<=a) (h1:a<=1000) :
  Meets (Builtin.«tuple.__mul__» ⟨[.ref l,.int a t],[]⟩) (fun _ R s=>s.heap.get? l=some { cls:= .type "tuple",dict:=dd,data:= .seq #[v] n,slots:=sl }/\R (.ok (.ret (.ref s.heap.objs.size))) { s with heap:=s.heap.push { cls:= .type "tuple",data:= .seq (List.replicate a.toNat v).toArray } }) :=
 .of_wp fun prog w A R s h=>by
  obtain ⟨hp,g,d,tk,os⟩:=s;obtain ⟨hl,h⟩:=h;have c1:¬ (a < -(2 ^ 63) || a ≥ 2 ^ 63)=true:=by simp only [Bool.or_eq_true,decide_eq_true_eq];lia
  have c2:¬ (#[v].isEmpty || a == 1)=true:=by simp;lia
  have c3:¬ (decide (a<=0) || #[v].isEmpty)=true:=by simp;(exact oqe)
  have c4:¬ ((#[v].size:Int) * a > (2 ^ 63 - 1) / 8):=by simp;(exact oqa)
  have c5:¬ Builtin.Tuple.tupleTooMany ((#[v].size:Int) * a)=true:=by
   unfold Builtin.Tuple.tupleTooMany;rw [jf];simp
   (exact oqa)
  have e0:List.foldl (fun x1 x2=>x1++x2) #[] (List.replicate a.toNat #[v])=(List.replicate a.toNat v).toArray:=by
   have:=nV [v] a.toNat [];rw [ou] at this;refine this.trans ?_
   congr 1
   generalize a.toNat=m
   induction m with
   |zero=>rfl
   |succ m ih=>rw [ig,ig,jt,ih];rfl
  have c6:¬ ((List.replicate a.toNat v).toArray.size > sizeLine):=by rw [jf];simp;(exact oqa)
  wp_walk using dv hl
  rw [ar c1]
  wp_walk using dv hl
  rw [ar c2]
  wp_walk using dv hl
  rw [ar c3]
  wp_walk using dv hl
  rw [ar c4]
  wp_walk using dv hl
  rw [ar c5]
  wp_walk using dv hl
  rw [e0,ar c6]
  wp_walk
  exact ⟨_,rfl,h⟩
theorem aR6 {X:Cx}:jX X (binaryOp .Mult) (fun x y H Q=>∃ (l:Addr) (k:Int) (u:V),x= .ref l/\y= .int k/\H l=some (.tup [u])/\ -1000<=k/\k<=1000/\∀ p H',bB H H'->H' p=some (.tup (List.replicate k.toNat u))->Q (.ref p) H'):=by
 intro pins s σ H x y v u Q I rx ry h;obtain ⟨l,k,w,rfl,rfl,hH,h1,h2,q⟩:=h
 cases rx
 obtain ⟨t,rfl⟩:=ry;obtain ⟨its,r,T,_⟩:=I.tuple (.inl (.inl hH));obtain ⟨x1,rfl,r1⟩:=iN r;obtain ⟨⟨cls,dd,data,sl⟩,ho,hc,n,hd⟩:=id T;simp only at hc hd;subst hc hd;have ty:s.TypeIs (.ref l) "tuple":=⟨_,ho,rfl⟩
 have new:∀ m:Nat,m<=1000->k.toNat=m->EP X pins σ Q (.ref s.heap.objs.size) { s with heap:=s.heap.push { cls:= .type "tuple",data:= .seq (List.replicate m x1).toArray } }:=fun m hm e=>by
  have rr:bN (List.replicate m w) (List.replicate m x1):=by
   clear e hm
   induction m with
   |zero=>exact .nil
   |succ m ih=>exact .cons r1 ih
  refine ⟨.ref _,_,I.laid (o:= .tup (List.replicate m w)) (t':=s.toks) (fun b o e=>ah _ e) (ai _) (show cK X.prog X.w _ _ _ (.tup (List.replicate m w)) from ⟨by rw [jw,jf];(exact oqf),_,rr,jI.new _ _⟩),rfl,q _ _ (aA I.fresh _) ?_⟩;rw [e];exact aC
 refine rh (T:="tuple") (U:="int") (by decide) ty (fun s'=>rg s' k t) aF9 F.fills_int_mul ow aT7 F.slot_int_index.lookup
  (jd ow (rg s k t) yd (xl _ _) (aO4 k t l #[x1] n dd sl) ⟨ho,rfl,ty,?_⟩)
 by_cases c1:k=1
 ·refine jd sq ty rd (qu _ _) (aO3 k t l x1 n dd sl (by lia) (by lia) c1) ⟨ho,⟨.ref l,H,I,rfl,q l H (bB.refl _) ?_⟩⟩;rw [c1];exact hH
 by_cases c2:k<=0
 ·exact jd sq ty rd (qu _ _) (aJ9 k t l x1 n dd sl c2 (by lia)) ⟨ho,new 0 (by (exact av _)) (by lia)⟩
 ·exact jd sq ty rd (qu _ _) (aI1 k t l x1 n dd sl (by lia) h2) ⟨ho,new k.toNat (by lia) rfl⟩
end L2
namespace HT
open PySem PySem.Spec PyProof.Rows L2
section
variable {prog:Program}{w:World}{A:Around}{E:Value->Shared->Prop}{s:Shared}
theorem getItem_tuple_all {t sl:Addr}{items:Array Value}{vl vu:Value}{lo hi:Option Int}{Q:Value->Shared->Prop}(ht:IsTup s.heap t items) (hs:s.heap.IsSliceOf sl vl vu .none) (pl:IsPart vl lo) (pu:IsPart vu hi)
  (hw:sIx items.size 0 lo=0/\sIx items.size items.size hi=items.size) (h:Q (.ref t) s):wpAny (model prog w) A (getItem (.ref t) (.ref sl)) Q E s:=by
 obtain ⟨os,hos,hcs,hds⟩:=id hs;have hTs:s.TypeIs (.ref sl) "slice":=⟨os,hos,hcs⟩
 unfold getItem
 try with_reducible refine wpAny_holding ?_
 first | refine wpAny_bind (wpAny_pure ?_) | skip
 refine wpAny_bind (wpAny_sequenceKey ht.typeIs (by decide) ?_);refine wpAny_bind (wpAny_callSpecial?_slot (name:=Str.ofString "__getitem__") ht.typeIs PyProof.Rows.slot_tuple_getitem
  (wpAny_call_entry PyProof.Rows.slot_tuple_getitem ht.typeIs entry_tuple_getitem ?_ (args_tuple_getitem _ _)))
 show wpAny _ _ (Builtin.Tuple.tupleItemsOf (.ref t) >>= _) _ _ s;refine wpAny_bind (tupleItemsOf_ ht ?_);refine wpAny_bind (wpAny_typeOf hTs ?_);rw [if_pos (by decide)];refine wpAny_bind (iZ hs pl pu ?_);have hyes:(((sIx items.size 0 lo:Nat):Int) == 0 && (1:Int) == 1 && (sIx items.size items.size hi - sIx items.size 0 lo) == items.size)=true:=by
  rw [hw.1,hw.2];simp
 show wpAny _ _ (if (((sIx items.size 0 lo:Nat):Int) == 0 && (1:Int) == 1 && (sIx items.size items.size hi - sIx items.size 0 lo) == items.size)=true then _ else _) _ _ s;rw [if_pos hyes];refine wpAny_bind (show wpAny _ _ (typeOf (.ref t) >>= fun _=>_) _ _ _ from wpAny_bind (wpAny_typeOf ht.typeIs (wpAny_pure ?_)));rw [if_pos (by decide)];exact wpAny_bind (wpAny_rule (wpAny_pure ⟨_,rfl,wpAny_pure h⟩))
end
end HT
namespace L2
open PySem PySem.Spec PyProof.Rows
def rSlA:V->Option Int->Option Int->Hp->VK->Prop:=fun x lo hi H Q=>∃ a xs,x= .ref a/\H a=some (.tup xs)/\∀ r H',bB H H'->H' r=some (.tup (fE xs lo hi))->Q (.ref r) H'
theorem bY {X:Cx}:SlR X rSlA:=by
 intro pins s σ H x v vl vu lo hi sl Q I rx hs pl pu h;obtain ⟨a,xs,rfl,ha,q⟩:=h
 by_cases c:HT.sIx xs.length 0 lo=0/\HT.sIx xs.length xs.length hi=xs.length
 ·cases rx
  obtain ⟨its,r,ht,hz⟩:=I.tuple (aQ.of ha);have hlen:its.toArray.size=xs.length:=by rw [bj];exact r.length.symm
  refine ⟨"tuple",_,PyProof.Rows.slot_tuple_getitem.lookup,ht.typeIs,?_⟩;refine HT.getItem_tuple_all ht hs pl pu (by rw [hlen];exact c) ⟨.ref a,H,I,rfl,q a H (bB.refl _) ?_⟩;unfold fE;rw [c.1,c.2,ql,xc,ci];exact ha
 ·exact bF7 pins s σ H (.ref a) v vl vu lo hi sl Q I rx hs pl pu ⟨a,xs,rfl,aQ.of ha,c,fun p hp=>q p _ (aA hp _) aC⟩
end L2
namespace Mine
open PySem L2
theorem hI (rs qs:List Rw):bG (rs++qs)=bG rs++bG qs:=bg
theorem dQ.app:∀ {rs qs:List Rw},dQ rs->dQ qs->dQ (rs++qs)
 |[],_,_,h=>h
 |_ :: _,_,⟨h,k⟩,h2=>⟨h,dQ.app k h2⟩
theorem dQ.of:∀ {rs:List Rw},(∀ r∈rs,kB r)->dQ rs
 |[],_=>trivial
 |r :: _,h=>⟨h r bh,dQ.of fun q hq=>h q (ay _ hq)⟩
theorem aX.of {H:Hp}:∀ {rs:List Rw},(∀ r∈rs,cJ H r)->aX H rs
 |[],_=>trivial
 |r :: _,h=>⟨h r bh,aX.of fun q hq=>h q (ay _ hq)⟩
theorem gU:∀ (rs qs:List Rw),dI (rs++qs)=max (dI rs) (dI qs)
 |[],qs=>by simp [dI]
 |r :: rs,qs=>by simp only [List.cons_append,dI,gU rs qs];lia
theorem yA:∀ {rs:List Rw}{n:Nat},(∀ r∈rs,r.dp<=n)->dI rs<=n
 |[],_,_=>av _
 |r :: rs,n,h=>by
  have:=h r bh;have:=yA fun q hq=>h q (ay r hq)
  simp only [dI]
  lia
theorem xJ {rs:List Rw}{k:Nat}{r:Rw}(h:rs[k]?=some r):rs=rs.take k++r :: rs.drop (k+1):=by
 obtain ⟨hk,e⟩:=az.mp h;rw [<- e];simp
structure tT (H:Hp) (p:Addr) (ks:List Str) (rs:List Rw) (c d:Nat):Prop where
 ex:∃ pk pr,H p=some (.tup [.ref pk,.ref pr])/\H pk=some (.tup (ks.map V.str))/\H pr=some (.tup (bG rs))
 rows:aX H rs
 tim:dQ rs
 cnt:aP rs<=c
 dp:dI rs<=d
theorem tT.ts {H H':Hp}{p:Addr}{ks:List Str}{rs:List Rw}{c d:Nat}(t:TS H H') (P:tT H p ks rs c d):tT H' p ks rs c d:=by
 obtain ⟨⟨pk,pr,a,b,e⟩,h1,h2,h3,h4⟩:=P;exact ⟨⟨pk,pr,t _ _ a,t _ _ b,t _ _ e⟩,aX.ts t rs h1,h2,h3,h4⟩
theorem tT.mono {H:Hp}{p:Addr}{ks:List Str}{rs:List Rw}{c d c' d':Nat}(P:tT H p ks rs c d) (h:c<=c') (h':d<=d'):tT H p ks rs c' d' :=
 ⟨P.ex,P.rows,P.tim,cj P.cnt h,cj P.dp h'⟩
mutual
theorem bA9:∀ (r:Rw),wW r->kB r
 |.thr _ _ _ _ _,_=>trivial
 |.lt _ _ _,_=>trivial
 |.tell _ _,_=>trivial
 |.when _ _ _ _ a b,h=>⟨mZ a h.2.1,mZ b h.2.2⟩
 |.times _ _ _ b,h=>⟨h.1.1,h.1.2.1,mZ b h.2⟩
theorem mZ:∀ (rs:List Rw),eB rs->dQ rs
 |[],_=>trivial
 |r :: rs,h=>⟨bA9 r h.1,mZ rs h.2⟩
end
def Rw.blk:Rw->Nat->Option (Addr×List Rw)
 |.when _ pa pb _ a b,j=>if j=0 then some (pa,a) else if j=1 then some (pb,b) else none
 |.times _ pb _ b,j=>if j=0 then some (pb,b) else none
 |.thr _ _ _ _ _,_=>none
 |.lt _ _ _,_=>none
 |.tell _ _,_=>none
inductive Lds:List Rw->List Nat->Rw->Prop
 |here {rs k r}:rs[k]?=some r->Lds rs [k] r
 |deep {rs k j q b pb P r}:rs[k]?=some q->q.blk j=some (pb,b)->Lds b P r->Lds rs (k :: j :: P) r
def lW (P:List Nat):List V:=P.map fun n:Nat=>V.int (n:Int)
def eN (H:Hp) (z:V) (P:List Nat):Prop:=∃ a,z= .ref a/\H a=some (.tup (lW P))
theorem eN.ts {H H':Hp}(t:TS H H') {z:V}{P:List Nat}(h:eN H z P):eN H' z P:=by
 obtain ⟨a,e,h⟩:=h;exact ⟨a,e,t _ _ h⟩
mutual
def iR (k:Nat):Rw->List (List Nat)
 |.when _ _ _ _ a b=>[k] :: ((eF 0 a).map (fun P=>k :: 0 :: P)++(eF 0 b).map (fun P=>k :: 1 :: P))
 |.times _ _ _ b=>[k] :: (eF 0 b).map (fun P=>k :: 0 :: P)
 |.thr _ _ _ _ _=>[[k]]
 |.lt _ _ _=>[[k]]
 |.tell _ _=>[[k]]
def eF (k:Nat):List Rw->List (List Nat)
 |[]=>[]
 |r :: rs=>iR k r++eF (k+1) rs
end
mutual
def fV:Rw->List Rw
 |.when p pa pb t a b=> .when p pa pb t a b :: (eS a++eS b)
 |.times p pb n b=> .times p pb n b :: eS b
 |.thr p w x vs am=>[.thr p w x vs am]
 |.lt p x t=>[.lt p x t]
 |.tell p t=>[.tell p t]
def eS:List Rw->List Rw
 |[]=>[]
 |r :: rs=>fV r++eS rs
end
mutual
theorem vR:∀ (r:Rw) (k:Nat),(iR k r).length=r.cnt
 |.when _ _ _ _ a b,k=>by have:=dS a 0;have:=dS b 0;simp only [iR,Rw.cnt,List.length_cons,List.length_append,List.length_map];lia
 |.times _ _ _ b,k=>by have:=dS b 0;simp only [iR,Rw.cnt,List.length_cons,List.length_map];lia
 |.thr _ _ _ _ _,_=>by simp only [iR,Rw.cnt,List.length_cons,List.length_nil]
 |.lt _ _ _,_=>by simp only [iR,Rw.cnt,List.length_cons,List.length_nil]
 |.tell _ _,_=>by simp only [iR,Rw.cnt,List.length_cons,List.length_nil]
theorem dS:∀ (rs:List Rw) (k:Nat),(eF k rs).length=aP rs
 |[],_=>by simp only [eF,aP,List.length_nil]
 |r :: rs,k=>by have:=vR r k;have:=dS rs (k+1);simp only [eF,aP,List.length_append];lia
end
mutual
theorem aS1:∀ (r:Rw),(fV r).length=r.cnt
 |.when _ _ _ _ a b=>by have:=kI a;have:=kI b;simp only [fV,Rw.cnt,List.length_cons,List.length_append];lia
 |.times _ _ _ b=>by have:=kI b;simp only [fV,Rw.cnt,List.length_cons];lia
 |.thr _ _ _ _ _=>by simp only [fV,Rw.cnt,List.length_cons,List.length_nil]
 |.lt _ _ _=>by simp only [fV,Rw.cnt,List.length_cons,List.length_nil]
 |.tell _ _=>by simp only [fV,Rw.cnt,List.length_cons,List.length_nil]
theorem kI:∀ (rs:List Rw),(eS rs).length=aP rs
 |[]=>by simp only [eS,aP,List.length_nil]
 |r :: rs=>by have:=aS1 r;have:=kI rs;simp only [eS,aP,List.length_append];lia
end
def Pr {α β: Type}(R:α->β->Prop):List α->List β->Prop
 |[],[]=>True
 |a :: as,b :: bs=>R a b/\Pr R as bs
 |[],_ :: _=>False
 |_ :: _,[]=>False
theorem Pr.app {α β: Type}{R:α->β->Prop}:∀ {as:List α}{bs:List β}{as':List α}{bs':List β},Pr R as bs->Pr R as' bs'->Pr R (as++as') (bs++bs')
 |[],[],_,_,_,h=>h
 |_ :: _,_ :: _,_,_,⟨h,k⟩,h2=>⟨h,Pr.app k h2⟩
 |[],_ :: _,_,_,h,_=>h.elim
 |_ :: _,[],_,_,h,_=>h.elim
theorem Pr.map {α α' β: Type}{R:α->β->Prop}{S:α'->β->Prop}{f:α->α'}(h:∀ a b,R a b->S (f a) b):∀ {as:List α}{bs:List β},Pr R as bs->Pr S (as.map f) bs
 |[],[],_=>trivial
 |_ :: _,_ :: _,⟨a,b⟩=>⟨h _ _ a,Pr.map h b⟩
 |[],_ :: _,h=>h.elim
 |_ :: _,[],h=>h.elim
theorem Pr.at {α β: Type}{R:α->β->Prop}:∀ {as:List α}{bs:List β}{i:Nat}{a:α},Pr R as bs->as[i]?=some a->∃ b,bs[i]?=some b/\R a b
 |[],[],i,a,_,h=>by simp at h
 |x :: _,y :: _,0,a,⟨h,_⟩,e=>by
  have e:x=a:=by simpa using e
  exact ⟨y,rfl,e ▸ h⟩
 |x :: as,y :: bs,i+1,a,⟨_,k⟩,e=>by
  have e:as[i]?=some a:=by simpa using e
  obtain ⟨b,e2,r⟩:=Pr.at k e;exact ⟨b,by simpa using e2,r⟩
 |[],_ :: _,_,_,h,_=>h.elim
 |_ :: _,[],_,_,h,_=>h.elim
def aH1 (rs:List Rw) (P:List Nat) (r:Rw):Prop:=Lds rs P r/\P.length<=2 * dI rs+1
mutual
theorem aP2:∀ (r:Rw) (rs:List Rw) (k:Nat),rs[k]?=some r->Pr (aH1 rs) (iR k r) (fV r)
 |.when p pa pb t a b,rs,k,h=>by
  have d:=fW (ap h);simp only [Rw.dp] at d;simp only [iR,fV];refine ⟨⟨.here h,by simp⟩,Pr.app (Pr.map (fun P r ⟨x,l⟩=>⟨.deep h (show Rw.blk _ 0=some (pa,a) from by simp [Rw.blk]) x,?_⟩) (iX a a 0 (by simp))) (Pr.map (fun P r ⟨x,l⟩=>⟨.deep h (show Rw.blk _ 1=some (pb,b) from by simp [Rw.blk]) x,?_⟩) (iX b b 0 (by simp)))⟩
  ·simp only [List.length_cons];lia
  ·simp only [List.length_cons];lia
 |.times p pb n b,rs,k,h=>by
  have d:=fW (ap h);simp only [Rw.dp] at d;simp only [iR,fV];refine ⟨⟨.here h,by simp⟩,Pr.map (fun P r ⟨x,l⟩=>⟨.deep h (show Rw.blk _ 0=some (pb,b) from by simp [Rw.blk]) x,?_⟩) (iX b b 0 (by simp))⟩;simp only [List.length_cons];lia
 |.thr _ _ _ _ _,rs,k,h=>by simp only [iR,fV];exact ⟨⟨.here h,by simp⟩,trivial⟩
 |.lt _ _ _,rs,k,h=>by simp only [iR,fV];exact ⟨⟨.here h,by simp⟩,trivial⟩
 |.tell _ _,rs,k,h=>by simp only [iR,fV];exact ⟨⟨.here h,by simp⟩,trivial⟩
theorem iX:∀ (qs rs:List Rw) (k:Nat),(∀ i,qs[i]?=rs[k+i]?)->Pr (aH1 rs) (eF k qs) (eS qs)
 |[],rs,k,_=>by simp only [eF,eS];trivial
 |q :: qs,rs,k,h=>by
  simp only [eF,eS];refine Pr.app (aP2 q rs k ?_) (iX qs rs (k+1) fun i=>?_)
  ·have:=h 0
   simpa using this.symm
  ·have:=h (i+1);rw [List.getElem?_cons_succ] at this;rw [this]
   congr 1
   lia
end
theorem iA (rs:List Rw):Pr (aH1 rs) (eF 0 rs) (eS rs):=iX rs rs 0 (by simp)
theorem Lds.mem {H:Hp}:∀ {rs:List Rw}{P:List Nat}{r:Rw},Lds rs P r->aX H rs->cJ H r:=by
 intro rs P r h
 induction h with
 |here h=>exact fun k=>k.mem _ (ap h)
 |deep h hb _ ih =>
  rename_i rs k j q b pb P r _
  intro k;have hq:=k.mem _ (ap h);refine ih ?_
  cases q with
  |when p pa pb' t a b' =>
   simp only [Rw.blk] at hb
   split at hb
   ·cases hb;exact hq.2.2.2.2.2.1
   ·split at hb
    ·cases hb;exact hq.2.2.2.2.2.2
    ·cases hb
  |times p pb' n b' =>
   simp only [Rw.blk] at hb
   split at hb
   ·cases hb;exact hq.2.2
   ·cases hb
  |thr p w x vs am=>simp only [Rw.blk] at hb;cases hb
  |lt p x t=>simp only [Rw.blk] at hb;cases hb
  |tell p t=>simp only [Rw.blk] at hb;cases hb
theorem Lds.facts:∀ {rs:List Rw}{P:List Nat}{r:Rw},Lds rs P r->(dQ rs->kB r)/\r.cnt<=aP rs/\r.dp<=dI rs:=by
 intro rs P r h
 induction h with
 |here h=>exact ⟨fun t=>t.mem (ap h),fQ (ap h),fW (ap h)⟩
 |deep h hb _ ih =>
  rename_i rs k j q b pb P r _
  have m:=ap h;have c:=fQ m;have d:=fW m;obtain ⟨i1,i2,i3⟩:=ih
  cases q with
  |when p pa pb' t a b' =>
   simp only [Rw.blk] at hb;simp only [Rw.cnt] at c;simp only [Rw.dp] at d
   split at hb
   ·cases hb;exact ⟨fun t=>i1 (t.mem m).1,by lia,by lia⟩
   ·split at hb
    ·cases hb;exact ⟨fun t=>i1 (t.mem m).2,by lia,by lia⟩
    ·cases hb
  |times p pb' n b' =>
   simp only [Rw.blk] at hb;simp only [Rw.cnt] at c;simp only [Rw.dp] at d
   split at hb
   ·cases hb;exact ⟨fun t=>i1 (t.mem m).2.2,by lia,by lia⟩
   ·cases hb
  |thr p w x vs am=>simp only [Rw.blk] at hb;cases hb
  |lt p x t=>simp only [Rw.blk] at hb;cases hb
  |tell p t=>simp only [Rw.blk] at hb;cases hb
mutual
theorem aF6:∀ (r:Rw) (k:Nat),(∃ s∈dE k r,s.2.1.w="tell")↔∃ q∈fV r,q.w="tell"
 |.when p pa pb t a b,k=>by
  have ia:=iD a (k+1);have ib:=iD b (k+1+aP a);simp only [dE,fV,List.mem_cons,List.mem_append,List.mem_singleton,List.not_mem_nil,or_false];have nw:¬ (("when": Str)="tell"):=by decide +kernel
  constructor
  ·rintro ⟨s,(rfl | ((e | rfl) | e) | rfl),w⟩
   ·exact absurd w nw
   ·obtain ⟨q,m,w⟩:=ia.mp ⟨s,e,w⟩;exact ⟨q,.inr (.inl m),w⟩
   ·exact absurd w nw
   ·obtain ⟨q,m,w⟩:=ib.mp ⟨s,e,w⟩;exact ⟨q,.inr (.inr m),w⟩
   ·exact absurd w nw
  ·rintro ⟨q,(rfl | e | e),w⟩
   ·exact absurd w nw
   ·obtain ⟨s,m,w⟩:=ia.mpr ⟨q,e,w⟩;exact ⟨s,.inr (.inl (.inl (.inl m))),w⟩
   ·obtain ⟨s,m,w⟩:=ib.mpr ⟨q,e,w⟩;exact ⟨s,.inr (.inl (.inr m)),w⟩
 |.times p pb n b,k=>by
  have ib:=iD b (k+1);simp only [dE,fV,List.mem_cons,List.mem_append,List.mem_singleton,List.not_mem_nil,or_false];have nw:¬ (("times": Str)="tell"):=by decide +kernel
  constructor
  ·rintro ⟨s,(rfl | e | rfl),w⟩
   ·exact absurd w nw
   ·obtain ⟨q,m,w⟩:=ib.mp ⟨s,e,w⟩;exact ⟨q,.inr m,w⟩
   ·exact absurd w nw
  ·rintro ⟨q,(rfl | e),w⟩
   ·exact absurd w nw
   ·obtain ⟨s,m,w⟩:=ib.mpr ⟨q,e,w⟩;exact ⟨s,.inr (.inl m),w⟩
 |.thr p w x vs am,k=>by simp only [dE,fV,List.mem_singleton,exists_eq_left]
 |.lt p x t,k=>by simp only [dE,fV,List.mem_singleton,exists_eq_left]
 |.tell p t,k=>by simp only [dE,fV,List.mem_singleton,exists_eq_left]
theorem iD:∀ (rs:List Rw) (k:Nat),(∃ s∈cR k rs,s.2.1.w="tell")↔∃ q∈eS rs,q.w="tell"
 |[],k=>by simp only [cR,eS,List.not_mem_nil,false_and,exists_false]
 |r :: rs,k=>by
  have i1:=aF6 r k;have i2:=iD rs (k+r.cnt);simp only [cR,eS,List.mem_append]
  constructor
  ·rintro ⟨s,(e | e),w⟩
   ·obtain ⟨q,m,w⟩:=i1.mp ⟨s,e,w⟩;exact ⟨q,.inl m,w⟩
   ·obtain ⟨q,m,w⟩:=i2.mp ⟨s,e,w⟩;exact ⟨q,.inr m,w⟩
  ·rintro ⟨q,(e | e),w⟩
   ·obtain ⟨s,m,w⟩:=i1.mpr ⟨q,e,w⟩;exact ⟨s,.inl m,w⟩
   ·obtain ⟨s,m,w⟩:=i2.mpr ⟨q,e,w⟩;exact ⟨s,.inr m,w⟩
end
theorem bJ3 {xs:List V}{r:Int}(h0:0<=r) (h1:r<=xs.length):fE xs none (some r)=xs.take r.toNat:=by
 unfold fE;rw [show r=((r.toNat:Nat):Int) by lia,HT.sIx_nat,HT.sIx_none,ql,xc,mj,lm (by lia)]
theorem pI {xs:List V}{n:Nat}:fE xs none (some (n:Int))=xs.take n:=by
 unfold fE;rw [HT.sIx_none,HT.sIx_nat];simp only [List.drop_zero,Nat.sub_zero]
 by_cases h:n<=xs.length
 ·rw [lm h]
 ·rw [yk (by lia),iw (ai _),iw (by lia)]
theorem lE {xs:List V}{n:Nat}:fE xs (some (n:Int)) none=xs.drop n:=by
 unfold fE;rw [HT.sIx_none,HT.sIx_nat];rw [iw (by simp)]
 by_cases h:n<=xs.length
 ·rw [lm h]
 ·rw [yk (by lia),uk (ai _),uk (by lia)]
theorem aE4 (rs:List Rw) (n:Nat):(bG rs).take n=bG (rs.take n):=nt.symm
theorem aC2 (rs:List Rw) (n:Nat):(bG rs).drop n=bG (rs.drop n):=vx.symm
theorem aS9 {H:Hp}{rs ss:List Rw}{k e:Nat}{r:Rw}(h:rs[k]?=some r) (hr:aX H rs) (ht:dQ rs) (sr:aX H ss) (st:dQ ss) (sd:dI ss<=r.dp+e) :
  aX H (rs.take k++ss++rs.drop (k+1))/\dQ (rs.take k++ss++rs.drop (k+1))/\aP (rs.take k++ss++rs.drop (k+1))+r.cnt=aP rs+aP ss/\dI (rs.take k++ss++rs.drop (k+1))<=dI rs+e:=by
 have e0:=xJ h;have a1:aX H (rs.take k):=aX.of fun q hq=>hr.mem q (pi hq)
 have a2:aX H (rs.drop (k+1)):=aX.of fun q hq=>hr.mem q (pj hq)
 have b1:dQ (rs.take k):=dQ.of fun q hq=>ht.mem (pi hq)
 have b2:dQ (rs.drop (k+1)):=dQ.of fun q hq=>ht.mem (pj hq)
 have c1:dI (rs.take k)<=dI rs:=yA fun q hq=>fW (pi hq)
 have c2:dI (rs.drop (k+1))<=dI rs:=yA fun q hq=>fW (pj hq)
 have c3:=fW (ap h);refine ⟨(a1.app sr).app a2,(b1.app st).app b2,?_,?_⟩
 ·conv=>rhs;rw [e0]
  rw [cM,cM,cM];simp only [aP]
  lia
 ·rw [gU,gU]
  lia
def spSumBy:Sp:=fun vs H Q _=>∃ (v:V) (m:Int),vs=[v,.int m]/\Sm H v/\0<=m/\m<=100/\∀ (u:V) (H':Hp),bB H H'->Sm H' u->Q u H'
def aI9 (n:Nat):Sp:=fun vs H Q _=>∃ (r:Rw) (m:Int),vs=[.ref r.p,.int m]/\cJ H r/\kB r/\r.cnt<=8000/\r.dp+1<=n/\0<=m/\m<=100 /\
 ∀ (r':Rw) (H':Hp),bB H H'->cJ H' r'->kB r'->r'.cnt=r.cnt->r'.dp=r.dp->Q (.ref r'.p) H'
def pH:Nat->Sp
 |0=>fun _ _ _ _=>False
 |n+1=>aI9 (n+1)
def spWithK:Sp:=fun vs H Q _=>∃ (p pk:Addr) (ks ks':List Str) (rs:List Rw) (c d:Nat),vs=[.ref p,.ref pk]/\tT H p ks rs c d/\H pk=some (.tup (ks'.map V.str))/\ks'.length<=100/\c<=8000/\d<=6 /\
 ∀ (p':Addr) (rs':List Rw) (H':Hp),bB H H'->tT H' p' ks' rs' c d->Q (.ref p') H'
def spOtherK:Sp:=fun vs H Q _=>∃ (d l p:Addr) (ks:List Str) (rs:List Rw) (c e:Nat),vs=[.ref d,.ref p]/\cS H d l/\tT H p ks rs c e/\ks.length<=50/\c<=8000/\e<=6 /\
 ∀ (p':Addr) (ks':List Str) (rs':List Rw) (H':Hp),cS H' d l->dZ d l H H'->tT H' p' ks' rs' c e->ks'.length<=ks.length+5->Q (.ref p') H'
def aM7 (n:Nat):Sp:=fun vs H Q _=>∃ (p:Addr) (rs:List Rw),vs=[.ref p]/\H p=some (.tup (bG rs))/\aX H rs/\aP rs<=8000/\dI rs+1<=n /\
 ∀ (q:Addr) (zs:List V) (H':Hp),bB H H'->H q=none->H' q=some (.lst zs)->eL (eN H') zs (eF 0 rs)->Q (.ref q) H'
def jO:Nat->Sp
 |0=>fun _ _ _ _=>False
 |n+1=>aM7 (n+1)
def aH8 (n:Nat):Sp:=fun vs H Q _=>∃ (p q:Addr) (rs:List Rw) (P:List Nat) (r:Rw),vs=[.ref p,.ref q]/\H p=some (.tup (bG rs))/\aX H rs/\H q=some (.tup (lW P))/\Lds rs P r/\P.length+1<=2 * n /\
 ∀ (H':Hp),bB H H'->Q (.ref r.p) H'
def jL:Nat->Sp
 |0=>fun _ _ _ _=>False
 |n+1=>aH8 (n+1)
def bE5 (n:Nat):Sp:=fun vs H Q _=>∃ (p q t:Addr) (rs ss:List Rw) (P:List Nat) (r:Rw) (e:Nat),vs=[.ref p,.ref q,.ref t]/\H p=some (.tup (bG rs))/\aX H rs/\dQ rs/\aP rs<=8000/\H q=some (.tup (lW P))/\Lds rs P r/\P.length+1<=2 * n /\
 H t=some (.tup (bG ss))/\aX H ss/\dQ ss/\aP ss<=8000/\dI ss<=r.dp+e /\
 ∀ (p':Addr) (rs':List Rw) (H':Hp),bB H H'->H' p'=some (.tup (bG rs'))->aX H' rs'->dQ rs'->aP rs' + r.cnt=aP rs+aP ss->dI rs'<=dI rs+e->Q (.ref p') H'
def wS:Nat->Sp
 |0=>fun _ _ _ _=>False
 |n+1=>bE5 (n+1)
structure NmL (H:Hp) (l nl:Addr) (xs:List Str):Prop where
 at_:H nl=some (.lst (xs.map V.str))
 ne:nl≠l
 x1:1<=xs.length
 x2:xs.length<=10000
theorem NmL.out {H H':Hp}{d l nl:Addr}{xs:List Str}(N:NmL H l nl xs) (D:cS H d l) (o:dZ d l H H'):NmL H' l nl xs:=⟨aV D N.at_ N.ne o,N.ne,N.x1,N.x2⟩
theorem NmL.same {H H':Hp}{l nl:Addr}{xs:List Str}(N:NmL H l nl xs) (s:bB H H'):NmL H' l nl xs:=⟨s _ _ N.at_,N.ne,N.x1,N.x2⟩
def aL1 (n:Nat):Sp:=fun vs H Q _=>∃ (d l nl:Addr) (xs:List Str) (t:Tm),vs=[.ref d,.ref t.p,.ref nl]/\cS H d l/\NmL H l nl xs/\jT H t/\t.ok/\t.deep<=n /\
 ∀ (t':Tm) (H':Hp),cS H' d l->dZ d l H H'->jT H' t'->t'.ok->t'.size<=t.size->Q (.ref t'.p) H'
def oW:Nat->Sp
 |0=>fun _ _ _ _=>False
 |n+1=>aL1 (n+1)
def spOThrow:Sp:=fun vs H Q _=>∃ (d l p:Addr) (w x:Str) (us:List V) (am:Bool),vs=[.ref d,.ref p]/\cS H d l/\cJ H (.thr p w x us am) /\
 ∀ (p':Addr) (us':List V) (am':Bool) (H':Hp),cS H' d l->dZ d l H H'->cJ H' (.thr p' w x us' am')->Q (.ref p') H'
def spOwise:Sp:=fun vs H Q _=>∃ (d l nl:Addr) (xs:List Str) (r:Rw),vs=[.ref d,.ref r.p,.ref nl]/\cS H d l/\NmL H l nl xs/\cJ H r/\kB r /\
 ∀ (q:Addr) (ss:List Rw) (H':Hp),cS H' d l->dZ d l H H'->H' q=some (.tup (bG ss))->aX H' ss->dQ ss->aP ss<=2 * r.cnt->dI ss<=r.dp->Q (.ref q) H'
def spSpoilt:Sp:=fun vs H Q _=>∃ (d l nl p:Addr) (xs ks:List Str) (rs:List Rw) (c e:Nat),vs=[.ref d,.ref p,.ref nl]/\cS H d l/\NmL H l nl xs/\tT H p ks rs c e/\ks.length<=50/\12<=c/\c<=4000/\e<=6 /\
 ∀ (p':Addr) (ks':List Str) (rs':List Rw) (H':Hp),cS H' d l->dZ d l H H'->tT H' p' ks' rs' c e->ks'.length<=ks.length+5->Q (.ref p') H'
def spTwoR:Sp:=fun vs H Q _=>∃ (d l nl p:Addr) (xs ks:List Str) (rs:List Rw) (c e:Nat),vs=[.ref d,.ref p,.ref nl]/\cS H d l/\NmL H l nl xs/\tT H p ks rs c e/\ks.length<=50/\c<=4000/\e<=5 /\
 ∀ (p':Addr) (ks':List Str) (rs':List Rw) (H':Hp),cS H' d l->dZ d l H H'->tT H' p' ks' rs' (c+2) (e+1)->ks'.length<=ks.length+6->Q (.ref p') H'
def iF (k:Nat) (kn:List Str):Rw->List Ft
 |.thr _ _ _ _ am=>oU k am
 |.lt _ _ t=>mQ k kn t.names
 |.tell _ t=>mQ k kn t.names
 |.when _ _ _ t a b=>mQ k kn t.names++tls k a b
 |.times _ _ _ _=>[]
def spRFlt:Sp:=fun vs H Q _=>∃ (kn:Addr) (ks:List Str) (r:Rw),vs=[.ref r.p,.ref kn]/\H kn=some (.lst (ks.map V.str))/\ks.length<=20000/\cJ H r/\kB r/\r.cnt<=4000/\r.dp<=6 /\
 ∀ (q:Addr) (H':Hp),bB H H'->H' q=some (.lst ((iF 0 ks r).map fun m=>V.str (rH m.2)))->Q (.ref q) H'
def lU (H:Hp) (z:V) (m:Ft):Prop:=∃ a,z= .ref a/\H a=some (.tup [.str (rH m.2),.int m.1])
theorem lU.ts {H H':Hp}(t:TS H H') {z:V}{m:Ft}(h:lU H z m):lU H' z m:=by
 obtain ⟨q,e,k⟩:=h;exact ⟨q,e,t _ _ k⟩
def aW1 (n:Nat):Sp:=fun vs H Q _=>∃ (p kn:Addr) (ks:List Str) (rs:List Rw) (k:Nat) (i:Int),vs=[.ref p,.int i,.ref kn]/\i=(k:Int)/\H p=some (.tup (bG rs))/\H kn=some (.lst (ks.map V.str))/\ks.length+aP rs<=20000/\aX H rs/\dQ rs/\aP rs<=4000/\dI rs<=6/\dI rs+1<=n /\
 ∀ (t q kn':Addr) (j:Int) (zs:List V) (H':Hp),bB H H'->H' t=some (.tup [.ref q,.int j,.ref kn'])->j=((k+aP rs:Nat):Int)->H' q=some (.lst zs)->H q=none->eL (lU H') zs (iW k ks rs)->H' kn'=some (.lst ((fX ks rs).map V.str))->(kn'=kn\/H kn'=none)->Q (.ref t) H'
def uG:Nat->Sp
 |0=>fun _ _ _ _=>False
 |n+1=>aW1 (n+1)
open Classical in
noncomputable def jD (ks:List Str) (rs:List Rw):Option (Str×Int) :=
 if ks.length=0\/3 < ks.length then some ("kinds",-1)
 else if ¬ ks.Nodup then some ("twice",-1)
 else match iW 0 [] rs with
  |m :: _=>some (rH m.2,m.1)
  |[]=>if ∃ q∈eS rs,q.w="tell" then none else some ("silent",-1)
def aM4 (H:Hp):Option (Str×Int)->V->Prop
 |none,v=>v= .non
 |some (w,n),v=>∃ a,v= .ref a/\H a=some (.tup [.str w,.int n])
def PgG (H:Hp) (p:Addr) (ks:List Str) (rs:List Rw):Prop:=tT H p ks rs 4000 6/\ks.length<=100
def spDue:Sp:=fun vs H Q _=>∃ (p:Addr) (ks:List Str) (rs:List Rw),vs=[.ref p]/\PgG H p ks rs/\∀ v H',bB H H'->aM4 H' (jD ks rs) v->Q v H'
def pE (C:Addr):Sp:=fun vs H Q _=>∃ (a:Addr) (w:Str) (n:Int),vs=[.ref a,.str w,.int n]/\H a=some (XN1 a C) /\
 ∀ dx,H dx=none->Q .non (aJ (aJ (aJ (aJ H dx (XM dx [])) a (zQ a C dx)) dx (XM dx [("word",.str w)])) dx (XM dx [("word",.str w),("row",.int n)]))
def bB9 (H:Hp) (dx:Addr) (w:Str) (n:Int):Prop:=H dx=some (XM dx [("word",.str w),("row",.int n)])
def wJ (C:Addr):Sp:=fun vs H Q E=>∃ (p:Addr) (ks:List Str),vs=[.ref p]/\H p=some (.tup (ks.map V.str))/\ks.length<=100 /\
 (1<=ks.length->ks.length<=3->ks.Nodup->∀ H',bB H H'->Q .non H') /\
 (∀ (w:Str) (dx:Addr) (H':Hp),(ks.length=0\/3 < ks.length)/\w="kinds"\/¬ (ks.length=0\/3 < ks.length)/\¬ ks.Nodup/\w="twice"->bB H H'->bB9 H' dx w (-1)->E (.ref C) (some dx) H')
def xT (C:Addr):Sp:=fun vs H Q E=>∃ (p:Addr) (ks:List Str) (rs:List Rw),vs=[.ref p]/\PgG H p ks rs /\
 (jD ks rs=none->∀ H',bB H H'->Q (.bl true) H') /\
 (∀ (w:Str) (n:Int) (dx:Addr) (H':Hp),jD ks rs=some (w,n)->bB H H'->bB9 H' dx w n->E (.ref C) (some dx) H')
def spToldP:Sp:=fun vs H Q _=>∃ (p:Addr) (ks:List Str) (rs:List Rw),vs=[.ref p]/\PgG H p ks rs/\∀ v H',bB H H'->aM4 H' (jD ks rs) v->Q v H'
theorem aY6 {X:Cx}(K:W.Frag) (h:autoParam (X.K=K) Rq0._auto_1):eM X (.type "tuple") (fun xs H Q=>∃ p ys,xs=[.ref p]/\((bI K H p ys/\∀ l,H l=none->Q (.ref l) (aJ H l (.tup ys)))\/(aQ K H p ys/\Q (.ref p) H))):=by
 subst h;exact cX
def nQ (H:Hp) (v:V) (b:List Rw):Prop:=∃ q bs,v= .ref q/\H q=some (.tup (bG bs))/\aX H bs/\dQ bs/\aP bs=aP b/\dI bs=dI b
theorem nQ.ts {H H':Hp}(t:TS H H') {v:V}{b:List Rw}(h:nQ H v b):nQ H' v b:=by
 obtain ⟨q,bs,e,g,R,r⟩:=h;exact ⟨q,bs,e,t _ _ g,aX.ts t bs R,r⟩
theorem bQ0 {α: Type}{R:V->α->Prop}{us:List V}{a:α}(h:eL R us [a]):∃ u,us=[u]/\R u a:=by
 cases us with
 |nil=>exact h.elim
 |cons u r=>cases r with
  |nil=>exact ⟨u,rfl,h.1⟩
  |cons v r=>exact h.2.elim
theorem bW7 {α: Type}{R:V->α->Prop}{us:List V}{a b:α}(h:eL R us [a,b]):∃ u v,us=[u,v]/\R u a/\R v b:=by
 cases us with
 |nil=>exact h.elim
 |cons u r =>
  obtain ⟨v,rfl,h2⟩:=bQ0 h.2;exact ⟨u,v,rfl,h.1,h2⟩
def Rw.bks:Rw->List (Addr×List Rw)
 |.when _ pa pb _ a b=>[(pa,a),(pb,b)]
 |.times _ pb _ b=>[(pb,b)]
 |.thr _ _ _ _ _=>[]
 |.lt _ _ _=>[]
 |.tell _ _=>[]
def bp (k:Nat):Nat->List (List Rw)->List (List Nat)
 |_,[]=>[]
 |j,b :: bs=>(eF 0 b).map (fun P=>k :: j :: P)++bp k (j+1) bs
theorem zR (k:Nat) (b:List Rw):∀ (bs:List (List Rw)) (j:Nat),bp k j (bs++[b])=bp k j bs++(eF 0 b).map (fun P=>k :: (j+bs.length) :: P)
 |[],j=>by simp [bp]
 |c :: bs,j=>by
  simp only [List.cons_append,bp,zR k b bs (j+1),List.length_cons,List.append_assoc];rw [show j+1+bs.length=j+(bs.length+1) by lia]
theorem qY (k:Nat):∀ r:Rw,iR k r=[k] :: bp k 0 (r.bks.map (·.2))
 |.when _ _ _ _ a b=>by simp [iR,Rw.bks,bp]
 |.times _ _ _ b=>by simp [iR,Rw.bks,bp]
 |.thr _ _ _ _ _=>by simp [iR,Rw.bks,bp]
 |.lt _ _ _=>by simp [iR,Rw.bks,bp]
 |.tell _ _=>by simp [iR,Rw.bks,bp]
theorem qU (r:Rw):∀ (rs:List Rw) (k:Nat),eF k (rs++[r])=eF k rs++iR (k+rs.length) r
 |[],k=>by simp [eF]
 |q :: rs,k=>by
  simp only [List.cons_append,eF,qU r rs (k+1),List.length_cons,List.append_assoc];rw [show k+1+rs.length=k+(rs.length+1) by lia]
theorem aD0 {rs:List Rw}{i:Nat}{r:Rw}(h:rs[i]?=some r):eF 0 (rs.take (i+1))=eF 0 (rs.take i)++iR i r:=by
 have hi:=(az.mp h).1;rw [bK h,qU,cv,lm (by (exact bu ‹_›)),ww]
theorem aU0:∀ {r:Rw},r.bks≠[]->fE (.str r.w :: r.rest) (some 2) none=r.bks.map fun b=>V.ref b.1
 |.when _ _ _ _ _ _,_=>rfl
 |.times _ _ _ _,_=>rfl
 |.thr _ _ _ _ _,h=>absurd rfl h
 |.lt _ _ _,h=>absurd rfl h
 |.tell _ _,h=>absurd rfl h
structure bX1 (H:Hp) (r:Rw) (b:Addr×List Rw):Prop where
 at_:H b.1=some (.tup (bG b.2))
 rows:aX H b.2
 tim:kB r->dQ b.2
 cnt:aP b.2 < r.cnt
 dp:dI b.2 < r.dp
theorem aJ1 {H:Hp}:∀ {r:Rw},cJ H r->∀ b∈r.bks,bX1 H r b
 |.when _ pa pb t a b,⟨_,_,_,ha,hb,ra,rb⟩,c,h=>by
  simp only [Rw.bks,List.mem_cons,List.not_mem_nil,or_false] at h;rcases h with rfl | rfl
  ·exact ⟨ha,ra,fun t=>t.1,by simp only [Rw.cnt];lia,by simp only [Rw.dp];lia⟩
  ·exact ⟨hb,rb,fun t=>t.2,by simp only [Rw.cnt];lia,by simp only [Rw.dp];lia⟩
 |.times _ pb n b,⟨_,hb,rb⟩,c,h=>by
  simp only [Rw.bks,List.mem_cons,List.not_mem_nil,or_false] at h;subst h;exact ⟨hb,rb,fun t=>t.2.2,by simp only [Rw.cnt];lia,by simp only [Rw.dp];lia⟩
 |.thr _ _ _ _ _,_,c,h=>absurd h dj
 |.lt _ _ _,_,c,h=>absurd h dj
 |.tell _ _,_,c,h=>absurd h dj
theorem aU3 {w:Str}(h:w∈dF):¬ (oM (V.str w) [.str "when",.str "times"]=true):=by
 have e:oM (V.str w) ((["when","times"]:List Str).map V.str)=decide (w∈(["when","times"]:List Str)):=dL _ _;have e:oM (V.str w) [.str "when",.str "times"]=decide (w∈(["when","times"]:List Str)):=e;rw [e,xq];intro z;have:∀ w∈dF,w∉(["when","times"]:List Str):=by decide +kernel
 exact this w h z
theorem bL9 {H:Hp}:∀ {r:Rw},cJ H r->(oM (V.str r.w) [.str "when",.str "times"]=true↔r.bks≠[])
 |.when _ _ _ _ _ _,_=>⟨fun _=>(fun z=>nomatch z),fun _=>show oM (V.str "when") [.str "when",.str "times"]=true by decide +kernel⟩
 |.times _ _ _ _,_=>⟨fun _=>(fun z=>nomatch z),fun _=>show oM (V.str "times") [.str "when",.str "times"]=true by decide +kernel⟩
 |.thr _ _ _ _ _,h=>⟨fun z=>absurd z (aU3 h.2.w),fun z=>absurd rfl z⟩
 |.lt _ _ _,_=>⟨fun z=>absurd z (show ¬ (oM (V.str "let") [.str "when",.str "times"]=true) by decide +kernel),fun z=>absurd rfl z⟩
 |.tell _ _,_=>⟨fun z=>absurd z (show ¬ (oM (V.str "tell") [.str "when",.str "times"]=true) by decide +kernel),fun z=>absurd rfl z⟩
theorem aN9 {b:List Rw}{m:Nat}{P:List Nat}(h:(eF 0 b)[m]?=some P):P.length<=2 * dI b+1:=by
 obtain ⟨_,_,_,l⟩:=(iA b).at h;exact l
theorem Lds.pos {rs:List Rw}{P:List Nat}{r:Rw}(h:Lds rs P r):1<=P.length:=by cases h <;> simp
theorem xU {rs:List Rw}{k:Nat}{r:Rw}(h:rs[k]?=some r):oK (bG rs) (k:Int)=some (.ref r.p):=by
 have:(bG rs)[k]?=some (.ref r.p):=by unfold bG;rw [dh,h];rfl
 obtain ⟨hk,_⟩:=az.mp this;obtain ⟨v,e1,e2⟩:=eV (xs:=bG rs) (r:=(k:Int)) (by (exact jq _)) (by lia);rw [mj,this] at e1;rw [e2, <- e1]
theorem lN (k j:Nat) (P:List Nat):fE (lW (k :: j :: P)) (some 2) none=lW P:=by
 have:=lE (xs:=lW (k :: j :: P)) (n:=2);exact this
theorem bD1:∀ {r:Rw}{j:Nat}{pb:Addr}{b:List Rw},r.blk j=some (pb,b)->oK (.str r.w :: r.rest) (2+(j:Int))=some (.ref pb)/\(pb,b)∈r.bks
 |.when _ pa qb t a c,j,pb,b,h=>by
  simp only [Rw.blk] at h
  split at h
  ·rename_i e;subst e;cases h;exact ⟨rfl,bh⟩
  ·split at h
   ·rename_i e;subst e;cases h;exact ⟨rfl,ay _ bh⟩
   ·cases h
 |.times _ qb n c,j,pb,b,h=>by
  simp only [Rw.blk] at h
  split at h
  ·rename_i e;subst e;cases h;exact ⟨rfl,bh⟩
  ·cases h
 |.thr _ _ _ _ _,_,_,_,h=>by simp only [Rw.blk] at h;cases h
 |.lt _ _ _,_,_,_,h=>by simp only [Rw.blk] at h;cases h
 |.tell _ _,_,_,_,h=>by simp only [Rw.blk] at h;cases h
theorem bC9 (i:Nat) (r:Rw) (j:Nat):(bp i 0 ((r.bks.map (·.2)).take j)).length<=r.cnt:=by
 have full:∀ (bs:List (List Rw)) (k j:Nat),(bp i k (bs.take j)).length<=(bp i k bs).length:=by
  intro bs
  induction bs with
  |nil=>intro k j;simp [bp]
  |cons b bs ih =>
   intro k j
   cases j with
   |zero=>simp [bp]
   |succ j=>have:=ih (k+1) j;simp only [List.take_succ_cons,bp,List.length_append];lia
 have h1:=full (r.bks.map (·.2)) 0 j;have h2:=vR r i;rw [qY,cu] at h2
 lia
mutual
theorem bF6:∀ r:Rw,r.dp<=r.cnt
 |.when _ _ _ _ a b=>by have:=nN a;have:=nN b;simp only [Rw.dp,Rw.cnt];lia
 |.times _ _ _ b=>by have:=nN b;simp only [Rw.dp,Rw.cnt];lia
 |.thr _ _ _ _ _=>by simp only [Rw.dp,Rw.cnt];(exact av _)
 |.lt _ _ _=>by simp only [Rw.dp,Rw.cnt];(exact av _)
 |.tell _ _=>by simp only [Rw.dp,Rw.cnt];(exact av _)
theorem nN:∀ rs:List Rw,dI rs<=aP rs
 |[]=>ai _
 |r :: rs=>by have:=bF6 r;have:=nN rs;simp only [dI,aP];lia
end
theorem aK8 {xs:List V}{a b:V}:fE (xs++[a,b]) (some (-2)) none=[a,b]:=by
 unfold fE;have e:HT.sIx (xs++[a,b]).length 0 (some (-2))=xs.length:=by
  have:=HT.clip_eq (-2) (xs++[a,b]).length 0;rw [bc (by decide)] at this;simp only [List.length_append,List.length_cons,List.length_nil] at this ⊢
  lia
 rw [e,HT.sIx_none,List.drop_left,iw];simp only [List.length_append,List.length_cons,List.length_nil]
 lia
theorem aL6 {xs:List V}{a b:V}:fE (xs++[a,b]) none (some (-2))=xs:=by
 unfold fE;have e:HT.sIx (xs++[a,b]).length (xs++[a,b]).length (some (-2))=xs.length:=by
  have:=HT.clip_eq (-2) (xs++[a,b]).length (xs++[a,b]).length;rw [bc (by decide)] at this;simp only [List.length_append,List.length_cons,List.length_nil] at this ⊢
  lia
 rw [e,HT.sIx_none,ql,xc,List.take_left]
theorem qB {H:Hp}{w:Str}{us:List V}{am:Bool}(h:kG H w us am):∃ us0 lo hi,us=us0++[.int lo,.int hi]/\us0.length<=4/\∀ H' i j,TS H H'->∃ am',kG H' w (us0++[.int i,.int j]) am':=by
 rcases h with ⟨e,a,b,lo,hi,rfl,h2,_⟩ | ⟨e,a,b,lo,hi,rfl,h2,_⟩ | ⟨e,mark,a,q,c,lo,hi,x,y,rfl,h2,h3,h4,h5,_⟩
 ·exact ⟨[a,b],lo,hi,rfl,by simp,fun H' i j t=>⟨_,.inl ⟨e,a,b,i,j,rfl,h2.ts t,rfl⟩⟩⟩
 ·exact ⟨[a,b],lo,hi,rfl,by simp,fun H' i j t=>⟨_,.inr (.inl ⟨e,a,b,i,j,rfl,h2.ts t,rfl⟩)⟩⟩
 ·exact ⟨[.int mark,a,.ref q,c],lo,hi,rfl,by simp,fun H' i j t=>⟨_,.inr (.inr ⟨e,mark,a,q,c,i,j,x,y,rfl,t _ _ h2,h3.ts t,h4,h5,rfl⟩)⟩⟩
def pR (H:Hp) (v:V):Prop:=∃ (a b:Addr) (m x y:Int),v= .ref a/\H a=some (.tup [.int m,.ref b])/\H b=some (.tup [.int x,.int y])/\0<=x/\x<=100
theorem pR.ts {H H':Hp}(t:TS H H') {v:V}(h:pR H v):pR H' v:=by
 obtain ⟨a,b,m,x,y,e,h1,h2,r⟩:=h;exact ⟨a,b,m,x,y,e,t _ _ h1,t _ _ h2,r⟩
def xC (H:Hp) (v:V):Prop:=∃ (a:Addr) (i j:Int),v= .ref a/\H a=some (.tup [.int i,.int j])
theorem xC.ts {H H':Hp}(t:TS H H') {v:V}(h:xC H v):xC H' v:=by
 obtain ⟨a,i,j,e,h⟩:=h;exact ⟨a,i,j,e,t _ _ h⟩
theorem aV6:∀ n:Nat,n < 6->(Txt.slice "abcde" none (some (n:Int))).length<=n:=by decide +kernel
theorem aT4 (c:Nat):(⟨#[c]⟩:Str).length=1:=rfl
theorem Tm.deep_size:∀ t:Tm,t.deep<=t.size
 |.num _ _=>ai _
 |.nam _ _=>ai _
 |.op _ _ a b=>by have:=a.deep_size;have:=b.deep_size;have:=a.size_pos;have:=b.size_pos;simp only [Tm.deep,Tm.size];lia
theorem aT9 (a b:V) (r:List V):fE (a :: b :: r) (some 2) none=r:=by
 have:=lE (xs:=a :: b :: r) (n:=2);exact this
theorem aQ5 (a:V) (r:List V):fE (a :: r) none (some 1)=[a]:=by
 have:=pI (xs:=a :: r) (n:=1);exact this
def OwH (r:Rw) (H:Hp) (v:V):Prop:=∃ q ss,v= .ref q/\H q=some (.tup (bG ss))/\aX H ss/\dQ ss/\aP ss<=2 * r.cnt/\dI ss<=r.dp
theorem OwH.ts {H H':Hp}{r:Rw}(t:TS H H') {v:V}(h:OwH r H v):OwH r H' v:=by
 obtain ⟨q,ss,e,g,R,x⟩:=h;exact ⟨q,ss,e,t _ _ g,aX.ts t ss R,x⟩
theorem kO {G:Hp}{r r':Rw}{t:Addr}(ht:G t=none) (h:cJ G r') (tm:kB r') (c:r'.cnt<=2 * r.cnt) (d:r'.dp<=r.dp):OwH r (aJ G t (.tup [.ref r'.p])) (.ref t) :=
 ⟨t,[r'],rfl,aC,⟨cJ.ts (.of (aA ht _)) r' h,trivial⟩,⟨tm,trivial⟩,by simp only [aP];lia,by simp only [dI];lia⟩
def oO:List Str:=["ladder","flat","choose","first","let"]
theorem aA9 (w:Str):oM (V.str w) [.str "ladder",.str "flat",.str "choose",.str "first",.str "let"]=decide (w∈oO):=dL w oO
theorem wG (w:Str):oM (V.str w) [.str "ladder",.str "flat",.str "choose",.str "first"]=decide (w∈dF):=dL w dF
theorem aQ2 {w:Str}(h:w∈dF):w∈oO:=by
 have:∀ w∈dF,w∈oO:=by decide +kernel
 exact this w h
def xZ (c e:Nat) (H:Hp) (v:V):Prop:=∃ q pa pb a b,v= .ref q/\H q=some (.tup [.ref pa,.ref pb])/\H pa=some (.tup (bG a))/\H pb=some (.tup (bG b))/\aX H a/\aX H b/\dQ a/\dQ b/\aP a+aP b<=c/\dI a<=e/\dI b<=e
theorem xZ.ts {H H':Hp}{c e:Nat}(t:TS H H') {v:V}(h:xZ c e H v):xZ c e H' v:=by
 obtain ⟨q,pa,pb,a,b,e,g,ga,gb,ra,rb,x⟩:=h;exact ⟨q,pa,pb,a,b,e,t _ _ g,t _ _ ga,t _ _ gb,aX.ts t a ra,aX.ts t b rb,x⟩
theorem aS6 {H:Hp}{w:Str}{us:List V}{am:Bool}(h:kG H w us am):us.length<=6:=by
 obtain ⟨us0,lo,hi,rfl,l,_⟩:=qB h;simp only [List.length_append,List.length_cons,List.length_nil]
 lia
end Mine
namespace L2
open PySem PySem.Spec PyProof.Rows
section
variable {P:Program}{w:World}{K:W.Frag}{mg:Str->Option Value}{base:Heap}
def ClY (P:Program) (w:World) (K:W.Frag) (mg:Str->Option Value) (base:Heap) (n:Nat) (sp:Sp) (x:Str):Prop:=∃ f d ps,jP P w K mg base (oY P w) n f d ps sp/\gQ K d ps []/\W.keepIn K (.ref f)=true/\mg x=some (.ref f)
def aV7 (P:Program) (w:World) (K:W.Frag) (mg:Str->Option Value) (base:Heap) (x q:Str) (st:Stmt) (n:Nat) (ps:List Str) (sp:Sp):Prop:=∀ {f:Addr}{d:FuncData},oP K x q st f d->jP P w K mg base (oY P w) n f d ps sp
theorem bQ3 {x q:Str}{st:Stmt}{k:Nat}{ps:List Str}{sp:Sp}(N:List Str)
  (hb:∀ {f:Addr}{cdv:Value}{A:Around}{outer:List Env}{s:Shared}{vs:List V}{E:XK}(H:Hp) (Q:VK),N.Nodup->eE k (A.deeper (envOfC q (aZ st) s.heap.objs.size f cdv))->sp vs H Q E ->
   ∃ t,oN (gO (oY P w) P w K mg base N q (aZ st) f cdv A outer s H E) (cH st) t/\t { nx:=fun _ H'=>Q .non H',rt:=Q } (iJ N vs) H)
  (len:autoParam (∀ vs H Q E,sp vs H Q E->vs.length=ps.length) Rq7._auto_1)
  (S:autoParam (gG N ps (aZ st)) Rq8._auto_1):aV7 P w K mg base x q st (k+1) ps sp :=
 fun F=>F.okY S len fun _ _ _ _ H _ Q _ hr h=>hb H Q S.nd hr h
theorem bW6 {x q:Str}{st:Stmt}{k:Nat}{ps:List Str}{sp:Sp}(N:List Str)
  (hb:∀ {f:Addr}{cdv:Value}{A:Around}{outer:List Env}{s:Shared}{vs:List V}{E:XK}(H:Hp) (Q:VK),N.Nodup->eE k (A.deeper (envOfC q (aZ st) s.heap.objs.size f cdv))->sp vs H Q E ->
   ∃ t,vL (gO wR P w K mg base N q (aZ st) f cdv A outer s H E).nox (cH st) t/\t { nx:=fun _ H'=>Q .non H',rt:=Q } (iJ N vs) H)
  (len:autoParam (∀ vs H Q E,sp vs H Q E->vs.length=ps.length) Rq7._auto_1)
  (S:autoParam (gG N ps (aZ st)) Rq8._auto_1):gN P w K mg base x q st (k+1) ps sp :=
 fun F=>F.ok0 S len fun _ _ _ _ H _ Q _ hr h=>hb H Q S.nd hr h
variable {x p1 p2:Str}{st:Stmt}{n:Nat}{sp:Sp}
theorem Zx.y1 (Z:Zx P w K mg base) (t:TopAt K x st) (ok:aV7 P w K mg base x x st n [p1] sp) (h:autoParam (∀ (kV doc pm:Value) (an:Option Addr) (cdv ct u1:Value),bindArgs (W.fnOf x x (dH st) (cH st) (aZ st) .none kV doc pm an cdv ct) ⟨[u1],[]⟩=pure [(p1,u1)]) Rq4._auto_1):ClY P w K mg base n sp x :=by
 obtain ⟨_,a,t⟩:=t;obtain ⟨_,F⟩:=t.fn;exact ⟨_,_,_,ok F,F.b1 h,F.kp,Z.ns _ _ a⟩
def Mk2 (P:Program) (w:World) (K:W.Frag) (mg:Str->Option Value) (base:Heap) (C:Addr) (sp:Sp) (x:Str):Prop:=∃ (D i:Addr) (e:FuncData) (o:Obj) (ps:List Str),XMk K C D (some (.ref i))/\K.lookup i=some o/\o.cls= .type "function"/\jP P w K mg base wR 1 i e ps sp/\gQ K e ps []/\mg x=some (.ref C)
end
section
variable {X:Cx}{x:Str}{p pos:Pos}{e:Expr}{es:List Expr}{t:TA}
theorem bD3 {k:Nat}{sp:Sp}{E:XK}(C:ClY X.prog X.w X.K X.mg X.base k sp x) {n:Nat}(hr:eE n X.A) (hx:jH (oY X.prog X.w) X E) (ha:PA X (e :: es) t) (hn:autoParam (k<=n) Rq10._auto_1) (hg:autoParam (Gl X x) Rq0._auto_1) (hdb:autoParam ((x == ("__debug__": Str))=false) Rq1._auto_1) (he:autoParam (starEach (e :: es) X.env=(false,eval e X.env) :: starEach es X.env) Rq0._auto_1)
  (hpl:autoParam ((backTo pos (starEach es X.env)).any (·.1)=false) Rq0._auto_1):PE X (.Call (.Name x p) (e :: es) [] pos) (aI6 sp [] E t):=by obtain ⟨_,_,_,g,b,k,m⟩:=C;exact zO g (hr.mono hn) hg m k b .nil hx ha hdb he hpl
end
section
variable {P:Program}{w:World}{K:W.Frag}{mg:Str->Option Value}{base:Heap}{N:List Str}{qual:Str}{scope:Scope}{f:Addr}{cd:Value}{A:Around}{outer:List Env}{s:Shared}{H:Hp}{E:XK}
theorem lJ {C:Addr}{sp:Sp}{x:Str}{p pos pos':Pos}{e:Expr}{es:List Expr}{t:TA}{n:Nat}(M:Mk2 P w K mg base C sp x) (hr:eE n (gO (oY P w) P w K mg base N qual scope f cd A outer s H E).A) (ha:PA (gO (oY P w) P w K mg base N qual scope f cd A outer s H E) (e :: es) t) (hn:autoParam (2<=n) Rq10._auto_1) (hg:autoParam (Gl (gO (oY P w) P w K mg base N qual scope f cd A outer s H E) x) Rq0._auto_1) (hdb:autoParam ((x == ("__debug__": Str))=false) Rq1._auto_1)
  (he:autoParam (starEach (e :: es) (gO (oY P w) P w K mg base N qual scope f cd A outer s H E).env=(false,eval e (gO (oY P w) P w K mg base N qual scope f cd A outer s H E).env) :: starEach es (gO (oY P w) P w K mg base N qual scope f cd A outer s H E).env) Rq0._auto_1) (hpl:autoParam ((backTo pos (starEach es (gO (oY P w) P w K mg base N qual scope f cd A outer s H E).env)).any (·.1)=false) Rq0._auto_1) :
  PS (gO (oY P w) P w K mg base N qual scope f cd A outer s H E) (.Raise (some (.Call (.Name x p) (e :: es) [] pos)) .none pos') (fun _ σ H1=>aA1 C sp E0 t σ H1 fun v H2=>∃ x dx,v= .ref x/\H2 x=some (zQ x C dx)/\H x= .none/\E (.ref C) (some dx) (rem H2 x)) :=by
 obtain ⟨_,_,_,_,_,M1,l,h,F,b,m⟩:=M;exact aD4 M1 (aC4 M1 l h F (hr.mono hn) hg m b aW5 ha hdb he hpl)
end
structure oH (K:W.Frag) (R:Addr) (cs:List Addr) (D:Addr):Prop where
 over:dU K R D
 is:XIs K R
 ty:∀ C∈cs,W.typeIn K (.ref C)=some (.type "type")
 cl:∀ C∈cs,(W.clsIn K C).isSome=true
 nr:R∉cs
 nd:D∉cs
 dc:(W.clsIn K D).isSome=true
 dt:W.typeIn K (.ref D)=some (.type "type")
theorem oH.kit {K:W.Frag}{cs:List Addr}{R D C:Addr}(F:oH K R cs D) (h:C∈cs):W.kitOne K (.ref R) (.ref C)=some false:=by
 have e:¬ R=C:=fun z=>F.nr (z ▸ h)
 have ne:C≠D:=fun z=>F.nd (z ▸ h)
 have b:(Value.ref R == Value.ref C)=false:=my.mpr fun q=>e (Value.ref.inj (re.mp q))
 obtain ⟨cd,hc⟩:=ji.mp (F.cl C h);unfold W.kitOne;rw [b];unfold W.kitCls;simp [hc,F.ty C h,F.over.subIn,Ne.symm e,ne,e]
theorem oH.ve {K:W.Frag}{cs:List Addr}{R D:Addr}(F:oH K R cs D):W.kitOne K (.ref R) (.type "ValueError")=some true:=by
 unfold W.kitOne W.kitCls;simp [aV4,F.over.subIn]
theorem oH.up {K:W.Frag}{cs:List Addr}{R D:Addr}(F:oH K R cs D):W.kitOne K (.ref R) (.ref D)=some true:=by
 unfold W.kitOne W.kitCls;simp [F.dc,F.dt,F.over.subIn]
theorem aU6:bootBuiltins "ValueError"=some (.type "ValueError"):=by decide +kernel
theorem bN9 {X:Cx}(K:W.Frag) (hK:autoParam (X.K=K) Rq0._auto_1):eM X (.builtin "isinstance") (fun xs H Q=>∃ a c C D b,xs=[.ref a,c]/\(∃ C',c= .ref C'/\W.kitOne K (.ref C) (.ref C')=some b\/∃ n,c= .ty n/\W.kitOne K (.ref C) (.type n)=some b)/\XAt H a C/\dU K C D/\XIs K C/\Q (.bl b) H):=by subst hK;exact aH5
theorem bV6 {X:Cx}(K:W.Frag) (hK:autoParam (X.K=K) Rq0._auto_1):eM X (.builtin "isinstance") (fun xs H Q=>∃ (a p C D:Addr) (cs:List Addr),xs=[.ref a,.ref p]/\aQ K H p (cs.map V.ref)/\XAt H a C/\dU K C D/\XIs K C/\(∀ c∈cs,W.kitOne K (.ref C) (.ref c)=some false)/\Q (.bl false) H):=by subst hK;exact aO9
theorem mR {X:Cx}(K:W.Frag) {f:Str}{e:Expr}{pos:Pos}{ta:TE}(he:PE X e ta) (hb:autoParam (attributeBase e f X.env (eval e X.env)=eval e X.env) Rq0._auto_1) (hK:autoParam (X.K=K) Rq0._auto_1):PE X (.Attribute e f pos) (aW9 K ta f):=by subst hK;exact aR7 he hb
theorem aU1 {X:Cx}:jX X (compareOp .IsNot) (fun x y H Q=>∃ a b,x= .bl a/\y= .bl b/\Q (.bl (a != b)) H):=by
 intro pins s σ H x y v u Q I rx ry h;obtain ⟨a,b,rfl,rfl,q⟩:=h
 cases rx
 cases ry
 exact isnot_bool ⟨.bl (a != b),H,I,rfl,q⟩
end L2
namespace Mine
open PySem L2
def bw (s:Str) (b:Bool):List Str:=if b then [s] else []
def g1:Rw->Bool
 |.thr _ w _ _ am=>decide (w≠"first") && am
 |.lt _ _ _=>false
 |.tell _ _=>false
 |.when _ _ _ _ _ _=>false
 |.times _ _ _ _=>false
def g2:Rw->Bool
 |.thr _ w _ _ am=>decide (w="first") && am
 |.lt _ _ _=>false
 |.tell _ _=>false
 |.when _ _ _ _ _ _=>false
 |.times _ _ _ _=>false
def rK (kn ns:List Str):Bool:= !decide (∀ y∈ns,y∈kn)
def g3 (kn:List Str):Rw->Bool
 |.thr _ _ _ _ _=>false
 |.lt _ _ t=>rK kn t.names
 |.tell _ t=>rK kn t.names
 |.when _ _ _ t _ _=>rK kn t.names
 |.times _ _ _ _=>false
def g4:Rw->Bool
 |.thr _ _ _ _ _=>false
 |.lt _ _ _=>false
 |.tell _ _=>false
 |.when _ _ _ _ a b=> !decide (cW a=cW b)
 |.times _ _ _ _=>false
theorem aP5 (k:Nat) (kn ns:List Str):(mQ k kn ns).map (fun m=>rH m.2)=bw "unknown" (rK kn ns):=by
 unfold mQ bw rK
 by_cases h:∀ y∈ns,y∈kn
 ·rw [bc h,af h];rfl
 ·rw [ar h,au h];exact dg (fun z=>[z]) bO3
theorem bM4 (k:Nat) (am:Bool):(oU k am).map (fun m=>rH m.2)=bw "range" am:=by
 unfold oU bw
 cases am
 ·rfl
 ·exact dg (fun z=>[z]) bQ5
theorem bQ9 (k:Nat) (a b:List Rw):(tls k a b).map (fun m=>rH m.2)=bw "tells" (!decide (cW a=cW b)):=by
 unfold tls bw
 by_cases h:cW a=cW b
 ·rw [bc h,af h];rfl
 ·rw [ar h,au h];exact dg (fun z=>[z]) bU3
theorem pU (s:Str):bw s false=[]:=rfl
theorem zX (k:Nat) (kn:List Str):∀ r:Rw,(iF k kn r).map (fun m=>rH m.2)=bw "range" (g1 r)++bw "range" (g2 r)++bw "unknown" (g3 kn r)++bw "tells" (g4 r)
 |.thr _ w _ _ am=>by
  simp only [iF,bM4,g1,g2,g3,g4,pU,List.append_nil]
  by_cases h:w="first"
  ·rw [af h,au (fun z=>z h),qe,vy,pU,ou]
  ·rw [au h,af (show w≠"first" from h),qe,vy,pU,gj]
 |.lt _ _ t=>by simp only [iF,aP5,g1,g2,g3,g4,pU,List.append_nil,List.nil_append]
 |.tell _ t=>by simp only [iF,aP5,g1,g2,g3,g4,pU,List.append_nil,List.nil_append]
 |.when _ _ _ t a b=>by simp only [iF,List.map_append,aP5,bQ9,g1,g2,g3,g4,pU,List.append_nil,List.nil_append]
 |.times _ _ _ _=>by simp only [iF,g1,g2,g3,g4,pU,List.append_nil,List.map_nil]
theorem bH8 (k:Nat) (kn:List Str):∀ (r:Rw) (m:Ft),m∈iF k kn r->m.1=(k:Int)
 |.thr _ _ _ _ am,m,h=>by rw [aA6 h]
 |.lt _ _ t,m,h=>by rw [jG h]
 |.tell _ t,m,h=>by rw [jG h]
 |.when _ _ _ t a b,m,h=>by
  rcases du.mp h with h | h
  ·rw [jG h]
  ·rw [oZ h]
 |.times _ _ _ _,m,h=>absurd h dj
theorem lP (k:Nat) (kn:List Str) (r:Rw):(iF k kn r).length<=4:=by
 have h:=dg List.length (zX k kn r);have b:∀ (s:Str) (c:Bool),(bw s c).length<=1:=by intro s c;cases c <;> simp [bw]
 have b1:=b "range" (g1 r);have b2:=b "range" (g2 r);have b3:=b "unknown" (g3 kn r);have b4:=b "tells" (g4 r);rw [aa] at h;simp only [List.length_append] at h
 lia
theorem vA (r:Rw):∀ (rs:List Rw) (kn:List Str),fX kn (rs++[r])=lk (fX kn rs) r
 |[],kn=>by simp only [List.nil_append,fX]
 |q :: rs,kn=>by simp only [List.cons_append,fX,vA r rs]
theorem wQ (r:Rw):∀ (rs:List Rw) (k:Nat) (kn:List Str),iW k kn (rs++[r])=iW k kn rs++lf (k+aP rs) (fX kn rs) r
 |[],k,kn=>by simp only [List.nil_append,iW,fX,aP,Nat.add_zero,List.append_nil]
 |q :: rs,k,kn=>by
  simp only [List.cons_append,iW,fX,aP,wQ r rs,List.append_assoc];rw [show k+q.cnt+aP rs=k+(q.cnt+aP rs) by lia]
mutual
theorem bI1:∀ (r:Rw) (kn:List Str),(lk kn r).length<=kn.length+r.cnt
 |.thr _ _ x _ _,kn=>by simp [lk,Rw.cnt]
 |.lt _ x _,kn=>by simp [lk,Rw.cnt]
 |.tell _ _,kn=>by simp [lk,Rw.cnt]
 |.when _ _ _ _ a b,kn=>by
  have:=nK b kn;have:=gp (fun x=>decide (x∈fX kn a)) (fX kn b);simp only [lk,Rw.cnt]
  lia
 |.times _ _ _ b,kn=>by have:=nK b kn;simp only [lk,Rw.cnt];lia
theorem nK:∀ (rs:List Rw) (kn:List Str),(fX kn rs).length<=kn.length+aP rs
 |[],kn=>by simp [fX,aP]
 |r :: rs,kn=>by have:=bI1 r kn;have:=nK rs (lk kn r);simp only [fX,aP];lia
end
mutual
theorem bJ4:∀ (r:Rw) (k:Nat) (kn:List Str),(lf k kn r).length<=4 * r.cnt
 |.thr a w x vs am,k,kn=>by have:=lP k kn (.thr a w x vs am);simp only [iF] at this;simp only [lf,Rw.cnt];assumption
 |.lt a x t,k,kn=>by have:=lP k kn (.lt a x t);simp only [iF] at this;simp only [lf,Rw.cnt];assumption
 |.tell a t,k,kn=>by have:=lP k kn (.tell a t);simp only [iF] at this;simp only [lf,Rw.cnt];assumption
 |.when p pa pb t a b,k,kn=>by
  have:=lP k kn (.when p pa pb t a b);simp only [iF,List.length_append] at this;have:=gH a (k+1) kn;have:=gH b (k+1+aP a) kn;simp only [lf,Rw.cnt,List.length_append]
  lia
 |.times _ _ _ b,k,kn=>by have:=gH b (k+1) kn;simp only [lf,Rw.cnt];lia
theorem gH:∀ (rs:List Rw) (k:Nat) (kn:List Str),(iW k kn rs).length<=4 * aP rs
 |[],k,kn=>by simp [iW,aP]
 |r :: rs,k,kn=>by have:=bJ4 r k kn;have:=gH rs (k+r.cnt) (lk kn r);simp only [iW,aP,List.length_append];lia
end
theorem aJ0 {rs:List Rw}{i:Nat}{r:Rw}(h:rs[i]?=some r):aP (rs.take (i+1))=aP (rs.take i)+r.cnt/\aP (rs.take i)+r.cnt<=aP rs:=by
 have e:=xJ h;have e2:aP rs=aP (rs.take i)+(r.cnt+aP (rs.drop (i+1))):=by
  conv=>lhs;rw [e]
  rw [cM];rfl
 refine ⟨by rw [bK h,cM];simp only [aP];lia,by lia⟩
theorem aR0:∀ (ks:List Key),¬ ks.Nodup->(dd ks).length < ks.length:=by
 intro ks
 suffices h:∀ (n:Nat) (ks:List Key),ks.length=n->¬ ks.Nodup->(dd ks).length < ks.length from h _ ks rfl
 intro n
 induction n with
 |zero =>
  intro ks e h;rw [gr e] at h;exact absurd List.nodup_nil h
 |succ n ih =>
  intro ks e h;obtain ⟨l,a,rfl⟩:∃ l a,ks=l++[a]:=⟨ks.dropLast,ks.getLast (by intro z;rw [z] at e;cases e),(List.dropLast_concat_getLast _).symm⟩
  rw [ak] at e;have e:l.length=n:=by simpa using e
  rw [zS,ak];have dl:=aM2 l
  by_cases c:l.Nodup
  ·have m:a∈l:=lq fun m=>h (mq.mpr ⟨c,by simp,fun x hx y hy z=>m (by rw [List.mem_singleton.mp hy] at z;rw [<- z];exact hx)⟩)
   unfold xE;rw [bc (kT.mpr ((bD9 l a).mpr m))];show (dd l).length < l.length+1
   lia
  ·have:=ih l e c;unfold xE
   split
   ·show (dd l).length < l.length+1;lia
   ·rw [ak];show (dd l).length+1 < l.length+1;lia
theorem rL {ks:List Str}(h:(ks.map (fun x=>(Sum.inr x:Key))).Nodup):ks.Nodup:=List.Pairwise.of_map (fun x=>(Sum.inr x:Key)) (fun a b z e=>z (by rw [e])) h
theorem vC (ks:List Str):decide (((dd (ks.map fun x=>(Sum.inr x:Key))).length:Int) < (ks.length:Int))= !decide ks.Nodup:=by
 by_cases h:ks.Nodup
 ·rw [aO7 (yC h),aa,af h];simp
 ·have:=aR0 (ks.map fun x=>(Sum.inr x:Key)) (fun z=>h (rL z));rw [aa] at this;rw [au h,af (by lia)];rfl
theorem kS {H H1:Hp}{x dx C:Addr}{w:Str}{n:Int}{E:XK}(s:bB H H1) (hx:H1 x=none) (hd:aJ H1 x (XN1 x C) dx=none) (k:∀ H',bB H H'->bB9 H' dx w n->E (.ref C) (some dx) H') :
  ∃ x' dx',V.ref x= .ref x'/\aJ (aJ (aJ (aJ (aJ H1 x (XN1 x C)) dx (XM dx [])) x (zQ x C dx)) dx (XM dx [("word",.str w)])) dx (XM dx [("word",.str w),("row",.int n)]) x'=some (zQ x' C dx')/\H x'=none /\
   E (.ref C) (some dx') (rem (aJ (aJ (aJ (aJ (aJ H1 x (XN1 x C)) dx (XM dx [])) x (zQ x C dx)) dx (XM dx [("word",.str w)])) dx (XM dx [("word",.str w),("row",.int n)])) x'):=by
 have ne:x≠dx:=aK aC hd;have hd2:H1 dx=none:=by rw [aH ne.symm] at hd;exact hd
 refine ⟨x,dx,rfl,by rw [aH ne,aH ne,aC],s.free hx,k _ (fun b u q=>?_) ?_⟩
 ·have b1:=s b u q;have nx:b≠x:=aK b1 hx;have nd:b≠dx:=aK b1 hd2;rw [nY nx,aH nd,aH nd,aH nx,aH nd,aH nx];exact b1
 ·show rem _ x dx=_;rw [nY ne.symm,aC]
section
variable {ks:List Str}{rs:List Rw}
theorem rQ (h:ks.length=0\/3 < ks.length):jD ks rs=some (("kinds": Str),(-1:Int)):=by unfold jD;rw [bc h]
theorem sL (h:¬ (ks.length=0\/3 < ks.length)) (h2:¬ ks.Nodup):jD ks rs=some (("twice": Str),(-1:Int)):=by unfold jD;rw [ar h,bc h2]
theorem nZ (h:¬ (ks.length=0\/3 < ks.length)) (h2:ks.Nodup) {m:Ft}{r:List Ft}(e:iW 0 [] rs=m :: r):jD ks rs=some (rH m.2,m.1):=by unfold jD;rw [ar h,ar (fun z=>z h2),e]
theorem qE (h:¬ (ks.length=0\/3 < ks.length)) (h2:ks.Nodup) (e:iW 0 [] rs=[]) (t:¬ ∃ q∈eS rs,q.w="tell"):jD ks rs=some (("silent": Str),(-1:Int)):=by unfold jD;rw [ar h,ar (fun z=>z h2),e];simp only;rw [ar t]
theorem qJ (h:¬ (ks.length=0\/3 < ks.length)) (h2:ks.Nodup) (e:iW 0 [] rs=[]) (t:∃ q∈eS rs,q.w="tell"):jD ks rs=none:=by unfold jD;rw [ar h,ar (fun z=>z h2),e];simp only;rw [bc t]
end
def iU:List Str:=["ladder","flat","choose"]
def lT:List Str:=["let","tell","when"]
theorem bL2:∀ {r:Rw},¬ r.w∈iU->∀ {H:Hp},cJ H r->g1 r=false
 |.thr p w x us am,c,H,h=>by
  have hw:=h.2.w;have:w="first":=by
   have key:∀ w∈dF,w∉iU->w="first":=by decide +kernel
   exact key w hw c
  simp [g1,this]
 |.lt _ _ _,_,_,_=>rfl
 |.tell _ _,_,_,_=>rfl
 |.when _ _ _ _ _ _,_,_,_=>rfl
 |.times _ _ _ _,_,_,_=>rfl
theorem bM8:∀ {r:Rw},¬ r.w="first"->g2 r=false
 |.thr p w x us am,c=>by
  have c:¬ w="first":=c;simp [g2,c]
 |.lt _ _ _,_=>rfl
 |.tell _ _,_=>rfl
 |.when _ _ _ _ _ _,_=>rfl
 |.times _ _ _ _,_=>rfl
theorem aL5 {w:Str}(h:w∈dF):¬ w∈lT:=by
 have key:∀ w∈dF,¬ w∈lT:=by decide +kernel
 exact key w h
theorem bU2 {ks:List Str}:∀ {r:Rw},¬ r.w∈lT->g3 ks r=false
 |.thr _ _ _ _ _,_=>rfl
 |.lt _ _ _,c=>absurd (show ("let": Str)∈lT by decide +kernel) c
 |.tell _ _,c=>absurd (show ("tell": Str)∈lT by decide +kernel) c
 |.when _ _ _ _ _ _,c=>absurd (show ("when": Str)∈lT by decide +kernel) c
 |.times _ _ _ _,_=>rfl
theorem bT0:∀ {r:Rw},¬ r.w="when"->g4 r=false
 |.thr _ _ _ _ _,_=>rfl
 |.lt _ _ _,_=>rfl
 |.tell _ _,_=>rfl
 |.when _ _ _ _ _ _,c=>absurd rfl c
 |.times _ _ _ _,_=>rfl
theorem qR (ks ns:List Str):decide ((0:Int) < ((ns.filter fun x=> !decide (x∈ks)).length:Int))=rK ks ns:=by
 unfold rK
 by_cases h:∀ y∈ns,y∈ks
 ·have:ns.filter (fun x=> !decide (x∈ks))=[]:=List.filter_eq_nil_iff.mpr fun a ha=>by simp [h a ha]
  rw [this,af h];rfl
 ·rw [au h];obtain ⟨y,hy,ny⟩:∃ y,y∈ns/\y∉ks:=lq fun z=>h fun y hy=>lq fun n=>z ⟨y,hy,n⟩
  have m:y∈ns.filter (fun x=> !decide (x∈ks)):=lg.mpr ⟨hy,by simp [ny]⟩;have:=List.length_pos_of_mem m;rw [af (by lia)];rfl
theorem iP {α: Type}{f:α->Bool}{l:List α}{i:Nat}{a:α}(h:l[i]?=some a):(l.take (i+1)).filter f=(l.take i).filter f++(if f a then [a] else []):=by
 rw [bK h,qv]
 cases e:f a <;> simp [e]
theorem gP (s:Str) (b:Bool):(bw s b).length<=1:=by cases b <;> simp [bw]
theorem lO (l:List Str) (s:Str):(l.map V.str)++[V.str s]=(l++bw s true).map V.str:=by simp [bw]
theorem kP (l:List Str) (s:Str):l.map V.str=(l++bw s false).map V.str:=by simp [bw]
theorem bC5 (k:Nat) (kn:List Str) (r:Rw):(iF 0 kn r).map (fun m=>V.str (rH m.2))=(iF k kn r).map (fun m=>V.str (rH m.2)):=by
 have e:=(zX 0 kn r).trans (zX k kn r).symm;have e2:=dg (List.map V.str) e;rw [ke,ke] at e2;exact e2
theorem pT (k:Nat) (kn:List Str):∀ r:Rw,lf k kn r=iF k kn r++(match r with | .when _ _ _ _ a b=>iW (k+1) kn a++iW (k+1+aP a) kn b | .times _ _ _ b=>iW (k+1) kn b | _=>[])
 |.thr _ _ _ _ _=>by simp [lf,iF]
 |.lt _ _ _=>by simp [lf,iF]
 |.tell _ _=>by simp [lf,iF]
 |.when _ _ _ _ _ _=>by simp [lf,iF]
 |.times _ _ _ _=>by simp [lf,iF]
theorem aA5 {H:Hp}:∀ {us:List V}{fs:List Ft},eL (jV H) us fs->∃ as:List Addr,us=as.map V.ref/\as.length=fs.length/\∀ (i:Nat) (a:Addr) (m:Ft),as[i]?=some a->fs[i]?=some m->H a=some (.tup [.int m.1,.int m.2,.str (rH m.2)])
 |[],[],_=>⟨[],rfl,rfl,fun i a m h=>by simp at h⟩
 |u :: us,f :: fs,⟨⟨q,e,h⟩,k⟩=>by
  obtain ⟨as,rfl,l,z⟩:=aA5 k;refine ⟨q :: as,by rw [e];rfl,by simp [l],fun i a m ha hm=>?_⟩
  cases i with
  |zero =>
   have ha:q=a:=by simpa using ha
   have hm:f=m:=by simpa using hm
   rw [<- ha, <- hm];exact h
  |succ i=>exact z i a m (by simpa using ha) (by simpa using hm)
 |[],_ :: _,h=>h.elim
 |_ :: _,[],h=>h.elim
theorem bY3 {σ: L2.St}(h:σ.length=4):∃ v0 v1 v2 v3,σ=[v0,v1,v2,v3]:=by
 rcases σ with _ | ⟨a,_ | ⟨b,_ | ⟨c,_ | ⟨d,_ | ⟨e,r⟩⟩⟩⟩⟩
 ·cases h
 ·cases h
 ·cases h
 ·cases h
 ·exact ⟨a,b,c,d,rfl⟩
 ·exact absurd h (by simp)
theorem aE2 (rs:List Rw):decide (("tell": Str)∈(eS rs).map Rw.w)=decide (∃ q∈eS rs,q.w="tell"):=by
 refine oe.mpr ⟨fun h=>?_,(by rintro ⟨q,m,e⟩;exact kg.mpr ⟨q,m,e⟩)⟩;obtain ⟨q,m,e⟩:=kg.mp h;exact ⟨q,m,e⟩
theorem aE7 (rs:List Rw):(((cR 0 rs).map fun s:Stp=>decide (s.2.1.w="tell")).any id=true)↔∃ q∈eS rs,q.w="tell":=by
 rw [<- iD rs 0,List.any_map,oa];refine ⟨(by rintro ⟨s,m,e⟩;exact ⟨s,m,ag e⟩),(by rintro ⟨s,m,e⟩;exact ⟨s,m,af e⟩)⟩
def uX:List Str:=["kinds","twice","silent","range","unknown","tells"]
theorem bJ0 (c:Int):rH c∈uX:=by
 unfold rH
 split
 ·decide +kernel
 ·split <;> decide +kernel
theorem aM9 {ks:List Str}{rs:List Rw}{w:Str}{n:Int}(h:jD ks rs=some (w,n)):w∈uX:=by
 unfold jD at h
 split at h
 ·cases h;decide +kernel
 ·split at h
  ·cases h;decide +kernel
  ·split at h
   ·cases h;exact bJ0 _
   ·split at h
    ·cases h
    ·cases h;decide +kernel
theorem aD1 {w:Str}(h:w∈uX) (n:Int):SeqAt.shaped (.tuple [.str w,.int n])=true/\SeqAt.noMix (.tuple [.str w,.int n]) (.tuple [.str w,.int n])=true/\Spec.same (.tuple [.str w,.int n]) (.tuple [.str w,.int n])=true:=by
 have key:∀ w∈uX,SeqAt.shaped (.str w)=true:=by decide +kernel
 have k1:=key w h;refine ⟨?_,?_,?_⟩
 ·unfold SeqAt.shaped at k1 ⊢;rw [kj] at k1 ⊢;refine ⟨?_,af (by simp [PyData.depth,PyData.depthAll])⟩
  simpa [PyData.canLay0,PyData.canLayAll0] using k1.1
 ·simp [SeqAt.noMix,SeqAt.noMixAll]
 ·simp [Spec.same,Spec.sameAll]
mutual
theorem aU4:∀ (r:Rw),(1:Int)<=kU r->∃ q∈fV r,q.w="tell"
 |.thr _ _ _ _ _,h=>by simp only [kU] at h;exact absurd h (by decide)
 |.lt _ _ _,h=>by simp only [kU] at h;exact absurd h (by decide)
 |.tell p t,_=>⟨.tell p t,by simp [fV],rfl⟩
 |.when p pa pb t a b,h=>by
  simp only [kU] at h;obtain ⟨q,m,e⟩:=lC h;exact ⟨q,by simp only [fV];exact ay _ (fg _ m),e⟩
 |.times p pb n b,h=>by
  simp only [kU] at h
  by_cases c:1<=cW b
  ·obtain ⟨q,m,e⟩:=lC c;exact ⟨q,by simp only [fV];exact ay _ m,e⟩
  ·by_cases c2:∃ q∈eS b,q.w="tell"
   ·obtain ⟨q,m,e⟩:=c2;exact ⟨q,by simp only [fV];exact ay _ m,e⟩
   ·have z:=lI b c2;rw [z] at h;simp at h
theorem lC:∀ {rs:List Rw},(1:Int)<=cW rs->∃ q∈eS rs,q.w="tell"
 |[],h=>by simp only [cW] at h;exact absurd h (by decide)
 |r :: rs,h=>by
  simp only [cW] at h
  by_cases c:1<=kU r
  ·obtain ⟨q,m,e⟩:=aU4 r c;exact ⟨q,by simp only [eS];exact fg _ m,e⟩
  ·by_cases c1:∃ q∈fV r,q.w="tell"
   ·obtain ⟨q,m,e⟩:=c1;exact ⟨q,by simp only [eS];exact fg _ m,e⟩
   ·have z:=vE r c1;obtain ⟨q,m,e⟩:=lC (rs:=rs) (by lia);exact ⟨q,by simp only [eS];exact cw _ m,e⟩
theorem vE:∀ (r:Rw),(¬ ∃ q∈fV r,q.w="tell")->kU r=0
 |.thr _ _ _ _ _,_=>by simp only [kU]
 |.lt _ _ _,_=>by simp only [kU]
 |.tell p t,h=>absurd ⟨.tell p t,by simp [fV],rfl⟩ h
 |.when p pa pb t a b,h=>by
  simp only [kU];refine lI a ?_;rintro ⟨q,m,e⟩;exact h ⟨q,by simp only [fV];exact ay _ (fg _ m),e⟩
 |.times p pb n b,h=>by
  simp only [kU];rw [lI b (by rintro ⟨q,m,e⟩;exact h ⟨q,by simp only [fV];exact ay _ m,e⟩),Int.mul_zero]
theorem lI:∀ (rs:List Rw),(¬ ∃ q∈eS rs,q.w="tell")->cW rs=0
 |[],_=>by simp only [cW]
 |r :: rs,h=>by
  simp only [cW];rw [vE r (by rintro ⟨q,m,e⟩;exact h ⟨q,by simp only [eS];exact fg _ m,e⟩),lI rs (by rintro ⟨q,m,e⟩;exact h ⟨q,by simp only [eS];exact cw _ m,e⟩)];rfl
end
def top (i:Nat):Stmt:=PySem.Challenge.pw_pairedthrows_k18_the_first_amiss.main.body.getD i (.Pass ⟨0,0,0,0⟩)
abbrev bS8:Stmt:=top 11
abbrev bU6:Stmt:=top 12
abbrev bM9:Stmt:=top 13
abbrev bR7:Stmt:=top 14
abbrev bN2:Stmt:=top 15
abbrev bT2:Stmt:=top 16
abbrev bM1:Stmt:=top 17
abbrev bR3:Stmt:=top 18
abbrev bP8:Stmt:=top 21
abbrev bL7:Stmt:=top 22
abbrev bK2:Stmt:=top 23
abbrev bP6:Stmt:=top 24
abbrev bR5:Stmt:=top 25
abbrev bK6:Stmt:=top 26
abbrev bO7:Stmt:=top 27
abbrev bM7:Stmt:=top 28
abbrev aG6:Stmt:=top 30
abbrev aK2:Stmt:=top 31
abbrev bK8:Stmt:=top 32
abbrev bO4:Stmt:=top 33
abbrev bS6:Stmt:=top 34
abbrev bN6:Stmt:=top 35
abbrev bT1:Stmt:=top 36
abbrev bT3:Stmt:=top 37
abbrev bM5:Stmt:=top 38
abbrev bT6:Stmt:=top 39
abbrev bO9:Stmt:=top 40
abbrev bS3:Stmt:=top 41
abbrev bP9:Stmt:=top 42
abbrev bM3:Stmt:=top 43
abbrev bK9:Stmt:=top 44
abbrev bR4:Stmt:=top 45
abbrev bS5:Stmt:=top 46
abbrev bL1:Stmt:=top 47
abbrev bM2:Stmt:=top 48
abbrev bM0:Stmt:=top 49
abbrev bL5:Stmt:=top 50
abbrev bU4:Stmt:=top 51
abbrev bS2:Stmt:=top 52
abbrev bN5:Stmt:=top 53
abbrev bR0:Stmt:=top 54
abbrev bM6:Stmt:=top 55
abbrev bS1:Stmt:=top 56
abbrev bO6:Stmt:=top 57
abbrev bN0:Stmt:=top 58
abbrev aJ7:Stmt:=top 59
def bK7 (s:Stmt):Stmt:=match s with
 |.ClassDef _ _ _ b _ _ _ _ _ _ _=>b.getD 0 (.Pass ⟨0,0,0,0⟩)
 |s=>s
abbrev aN0:Stmt:=bK7 (top 3)
section
variable {P:Program}{w:World}{K:W.Frag}{mg:Str->Option Value}{base:Heap}
theorem uS:gG ["_law_deal_here","_law_many","_law_number","_law_one","_law_other"] ["_law_deal_here","_law_many"] (aZ aK2):=by refine ⟨rfl,rfl,rfl,?_,rfl,?_,?_⟩<;>decide +kernel
theorem aQ9 {f:Addr}{fd:FuncData}(F:oP K "_law_draw" "_law_draw" aK2 f fd) (ml:mg "len"=none):jP P w K mg base wR 1 f fd ["_law_deal_here","_law_many"] spDraw:=by
 refine F.ok uS (fun vs H Q E h=>?_) (fun cdv A outer s H vs Q E hr h=>?_)
 ·obtain ⟨d,l,m,rfl,_⟩:=h;rfl
 obtain ⟨d,l,m,rfl,⟨sd,n,ls,D⟩,hm0,hm1,k⟩:=h;have hu:=lR hr;refine ⟨_,aE (rG ll (eR (mV bP (iL hu (pv 0) aG (fun _ _=>rfl)) aD (nU _)) (eU (mV eW (qG aW (by rfl) ml bz (aB (iL hu (pv 0) aG (fun _ _=>rfl)) cF)) aD (nU _)))).pt
   (aF (pL hu (pv 0) aG (kM aj fb fc kE (iL hu (pv 0) aG (fun _ _=>rfl))) rfl)))
  (aE (jK (i:=2) uS.nd rfl (ii rfl) (iL hu (pv 0) aG (fun _ _=>rfl)))
  (aE (bE (mV eW (pv 2) aD (nU _))
   (aE (pL hu (pv 0) aG (aM aI2 (pv 2) (pv 1)) rfl) (aF (aU (aM jN (pv 2) (pv 1))))) aO)
  (aE (jK (i:=3) uS.nd rfl (ii rfl) (aM jN (aM bT (aM fP (iL hu (pv 0) aG (fun _ _=>rfl)) aD) aD) aD))
  (aE (pL hu (pv 0) aG (aM jN (aM bT (aM fP (pv 3) aD) aD) aD) rfl)
  (aE (jK (i:=4) uS.nd rfl (ii rfl) (aM jN (aM fP (iL hu (pv 0) aG (fun _ _=>rfl)) (iL hu (pv 0) aG (fun _ _=>rfl))) aD))
  (aF (aU (aM jN (aM bT (aM fP (aM jN (aM fP (pv 3) (pv 3)) aD) aD) (pv 4)) (pv 1))))))))),?_⟩
 refine ⟨fun j σ H1=>∃ n' ls',σ=[some (.ref d),some (.int m),none,none,none]/\cP H1 d l sd n' ls'/\j=ls'.length/\dZ d l H H1,⟨_,n,ls,rfl,D,rfl,dZ.refl H⟩,?_⟩;rintro j σ H1 ⟨n',ls',rfl,D1,rfl,o1⟩;refine ⟨_,rfl,d,_,rfl,D1.gn,rfl,_,rfl,?_⟩;refine rN (fun c=>?a) (fun c=>bX8 ?b)
 case' a=>refine ⟨_,rfl,d,_,rfl,D1.gl,l,_,rfl,.inl (bI.of D1.lc),_,_,rfl,rfl,_,rfl,?_⟩
 case' a=>refine rN (fun c2=>?loop) (fun c2=>?b2)
 case loop =>
   have hl:0 < ls'.length:=by
    have:=ag c2
    simpa using this
   obtain ⟨z,hz⟩:∃ z,ls'[ls'.length - 1]?=some z:=⟨ls'[ls'.length - 1],by simp⟩
   have hz2:(ls'.map V.int)[(ls'.map V.int).length - 1]?=some (.int z):=by rw [aa,dh,hz];rfl
   have z0:0<=z:=D1.l0 z (ap hz);have D2:cP (aJ H1 l (.lst (ls'.dropLast.map V.int))) d l sd n' ls'.dropLast:=D1.left fun x hx=>D1.l0 x (List.dropLast_subset _ hx)
   refine ⟨fun σ' H'=>σ'=[some (.ref d),some (.int m),none,none,none]/\cP H' d l sd z ls'.dropLast/\dZ d l H H',fun σ' H' q=>⟨_,by rw [vi];lia,z,ls'.dropLast,q.1,q.2.1,rfl,q.2.2⟩,?_⟩;refine ⟨_,rfl,d,_,rfl,D1.gl,.inl ⟨rfl,_,bI.of D1.lc⟩,l,_,_,rfl,rfl,D1.lc,hz2,?_⟩;have e:∀ (o:List V),(ls'.map V.int).dropLast=o->aJ H1 l (.lst (ls'.map V.int).dropLast)=aJ H1 l (.lst o):=fun o e=>by rw [e]
   rw [e _ List.map_dropLast.symm];refine ⟨_,rfl,d,_,rfl,D2.pn z,rfl,D2.number z0,o1.trans (dZ.upd_l.trans dZ.upd_d)⟩
 all_goals
  refine ⟨_,rfl,d,_,rfl,D1.gn,?_⟩;refine ⟨_,rfl,_,_,rfl,rfl,_,rfl,?_⟩;refine rN (fun c3=>?_) (fun c3=>?_)
  ·have hp:0 < n':=ag c3;refine ⟨_,rfl,_,rfl,_,_,rfl,rfl,⟨hm0,by lia⟩,_,rfl,d,_,rfl,D1.pn (n' / m),?_⟩;refine ⟨_,rfl,_,rfl,_,_,rfl,rfl,hm0,?_⟩;exact k _ _ (pf _ (by (exact oqt))) (md _ hm0) ⟨_,_,_,D1.number (Int.ediv_nonneg (by (exact sh ‹_›)) (by (exact sh ‹_›)))⟩ (o1.trans dZ.upd_d)
  ·
   have q1:(0:Int) < 2147483647:=by decide
   refine ⟨_,rfl,d,_,rfl,D1.gs,_,_,rfl,rfl,.inr ⟨by decide,by decide⟩,_,_,rfl,rfl,_,_,rfl,rfl,q1,?_⟩;have q2:(0:Int) < 2147483399:=by decide
   refine ⟨_,rfl,_,_,rfl,rfl,.inr ⟨by decide,by decide⟩,_,_,rfl,rfl,_,_,rfl,rfl,q2,_,rfl,d,_,rfl,D1.ps _,?_⟩;have D2:=D1.seed (v:=((sd * 48271+7919) % 2147483647 * 40692+104729) % 2147483399) (by lia) (by lia);have q3:(0:Int) < 2147483563:=by decide
   have q4:(0:Int) < 2147483629:=by decide
   refine ⟨_,rfl,d,_,rfl,D2.gs,_,rfl,d,_,rfl,D2.gs,_,_,rfl,rfl,.inr ⟨by lia,by lia⟩,_,_,rfl,rfl,q3,?_⟩;refine ⟨_,rfl,_,rfl,_,_,rfl,rfl,.inr ⟨by lia,by lia⟩,_,_,rfl,rfl,q4,_,_,rfl,rfl,.inr ⟨by decide,by decide⟩,_,rfl,_,_,rfl,rfl,_,rfl,_,_,rfl,rfl,hm0,?_⟩;exact k _ _ (pf _ (by (exact oqt))) (md _ hm0) ⟨_,_,_,D2⟩ (o1.trans dZ.upd_d)
end
theorem yE (x n:Int) (l:Addr):iT [] (eX x n l)=eX x n l:=by
 unfold iT eX;simp only [List.foldl_cons,List.foldl_nil];have e1:fH ([]:List (Key×V)) (Sum.inr ("seed": Str)) (V.int x)=[(Sum.inr ("seed": Str),V.int x)]:=rfl;have e2:fH [(Sum.inr ("seed": Str),V.int x)] (Sum.inr ("number": Str):Key) (V.int n)=[(Sum.inr ("seed": Str),V.int x),(Sum.inr ("number": Str),V.int n)]:=mY _ (by rw [cC ksn,jZ]);have e3:fH [(Sum.inr ("seed": Str),V.int x),(Sum.inr ("number": Str),V.int n)] (Sum.inr ("left": Str):Key) (V.ref l)=[(Sum.inr ("seed": Str),V.int x),(Sum.inr ("number": Str),V.int n)]++[(Sum.inr ("left": Str),V.ref l)]:=mY _ (by rw [cC ksl,cC knl,jZ]);rw [e1,e2,e3];rfl
theorem aH4:(["_law_cell"]:List Str).Nodup:=by decide +kernel
theorem aO2 (ns:List Int) (lo hi:Option Int):∃ ms:List Int,fE (ns.map V.int) lo hi=ms.map V.int/\ms.length<=ns.length:=by
 refine ⟨(ns.drop (HT.sIx ns.length 0 lo)).take (HT.sIx ns.length ns.length hi - HT.sIx ns.length 0 lo),?_,?_⟩
 ·unfold fE;rw [aa,nt,vx]
 ·rw [cv,nv];lia
section
variable {P:Program}{w:World}{K:W.Frag}{mg:Str->Option Value}{base:Heap}
theorem pW:gG ["_law_script","_law_base","_law_cells","_law_number","_law_cell"] ["_law_script","_law_base"] (aZ aG6):=by refine ⟨rfl,rfl,rfl,?_,rfl,?_,?_⟩<;>decide +kernel
theorem aV9 {f:Addr}{fd:FuncData}(F:oP K "_law_deal" "_law_deal" aG6 f fd) (mm:mg "max"=none) (mr:mg "reversed"=none) (ml:mg "list"=none):jP P w K mg base wR 1 f fd ["_law_script","_law_base"] (aK0 K):=by
 refine F.ok pW (fun vs H Q E h=>?_) (fun cdv A outer s H vs Q E hr h=>?_)
 ·obtain ⟨a,ns,b,rfl,_⟩:=h;rfl
 obtain ⟨a,ns,b,rfl,hS,hlen,hb0,hb1,k⟩:=h;refine ⟨_,aE (oX ["_law_cell"] [none] (i:=2) pW.nd rfl (ii rfl) (dW (bH tU (pv 0) (bO (pv 1)) (bO aD)))
   (fun _ _ _ _=>pC (i:=0) aH4 rfl (ii rfl)) (fun _ _ _ _=>eK) (fun _ _ _ _=>qG (sR rfl) (by rfl) mm vf (aB (pv 0) (aB (aM dP aD (pv 0)) cF))))
  (aE (jK (i:=3) pW.nd rfl (ii rfl) (aM bT aD (pv 1)))
  (aE (aH6 ll rfl (dW (pv 2)) (pC (i:=4) pW.nd rfl (ii rfl))
   (aF (jK (i:=3) pW.nd rfl (ii rfl) (aM jN (aM bT (aM fP (pv 3) aD) (aM jN (pv 4) aD)) aD))))
  (aF (aU (zZ (iY aG (pv 3) (iY aG aD (iY aG (xH (cQ ["_law_cell"] [none] (dW (pv 2))
   (fun _ _ _ _=>pC (i:=0) aH4 rfl (ii rfl)) (fun _ _ _ _=>mE (mV aY1 (pv 0) (aM bA1 aD aD) (nU _))) (fun _ _ _ _=>pv 0)) (by rfl) ml (by rfl) mr) zJ))) rfl rfl (by decide) (by decide)))))),?_⟩
 refine ⟨_,rfl,_,rfl,_,rfl,_,rfl,a,_,rfl,hS,fun p1 np1=>?_⟩;obtain ⟨ms,em,hms⟩:=aO2 ns (some b) (some 63);have g1:bB H (aJ H p1 (.lst (fE (ns.map V.int) (some b) (some 63)))):=aA np1 _;have hp1:bI K (aJ H p1 (.lst (fE (ns.map V.int) (some b) (some 63)))) p1 (ms.map V.int):=by rw [em];exact bI.of aC
 generalize aJ H p1 (.lst (fE (ns.map V.int) (some b) (some 63)))=H1 at g1 hp1 ⊢;refine ⟨p1,rfl,⟨_,hp1⟩,cO (xs:=ms.map V.int) (fun i ys σ H2=>H2=H1/\(∃ v,σ=[v])/\∃ cs:List Int,ys=cs.map V.int/\cs.length=i/\∀ x∈cs,0<=x)
  (by rw [aa];exact bL (by lia)) ⟨rfl,⟨_,rfl⟩,[],rfl,rfl,fun _ z=>nomatch z⟩ (fun i ys σ H2 ⟨_,_,cs,e1,e2,_⟩=>by rw [e1,aa];lia) (fun i ys σ H2 _ ⟨e,_⟩=>by rw [e];exact hp1) ?_ ?_⟩
 ·rintro i x ys σ H2 hx ⟨rfl,⟨v,rfl⟩,cs,rfl,rfl,h0⟩;obtain ⟨z,rfl,_⟩:=uJ hx;refine ⟨_,rfl,_,rfl,_,_,rfl,rfl,_,_,rfl,rfl,⟨_,rfl⟩,cs++[if 0 - z > z then 0 - z else z],by rw [bg];rfl,by rw [ak];rfl,fun x hx=>?_⟩;rcases du.mp hx with q | q
  ·exact h0 x q
  ·have e:x=if 0 - z > z then 0 - z else z:=by simpa using q
   rw [e];split <;> lia
 rintro ys σ H2 ⟨rfl,_,cs,rfl,hcs,h0⟩ p2 np2;have hm63:cs.length<=63:=by rw [aa] at hcs;lia
 have g2:bB H2 (aJ H2 p2 (.lst (cs.map V.int))):=aA np2 _;have hp2:bI K (aJ H2 p2 (.lst (cs.map V.int))) p2 (cs.map V.int):=bI.of aC;generalize aJ H2 p2 (.lst (cs.map V.int))=H3 at g2 hp2 ⊢;refine ⟨_,rfl,_,_,rfl,rfl,?_⟩;refine ⟨_,rfl,p2,rfl,⟨_,hp2⟩,wT (K:=K) (a:=p2) (xs:=cs.map V.int) (fun i σ H4=>H4=H3/\∃ (x:Int) (v:Option V),σ=[some (.ref a),some (.int b),some (.ref p2),some (.int x),v]/\0<=x/\x < 2147483647)
  ⟨rfl,7919+b,none,rfl,by lia,by lia⟩ (fun i σ H4 _ ⟨e,_⟩=>by rw [e];exact hp2) ?_ ?_⟩
 ·rintro i y σ H4 hi ⟨rfl,x,v,rfl,x0,x1⟩;obtain ⟨z,rfl,_⟩:=uJ hi;have q1:(0:Int) < 2147483629:=by decide
  have q2:(0:Int) < 2147483647:=by decide
  refine ⟨_,rfl,_,_,rfl,rfl,.inr ⟨by decide,by decide⟩,_,rfl,_,_,rfl,rfl,q1,_,_,rfl,rfl,_,_,rfl,rfl,q2,rfl,_,_,rfl,?_,?_⟩
  ·exact pf _ (by decide)
  ·exact md _ q2
 rintro σ H4 ⟨rfl,x,v,rfl,x0,x1⟩;intro d nd;have g4:bB H4 (aJ H4 d (.dK [])):=aA nd _;have hd4:aJ H4 d (.dK []) d=some (.dK []):=aC;have hp4:=g4.seq hp2;refine ⟨_,rfl,_,rfl,p2,rfl,⟨_,hp4⟩,?_⟩;generalize aJ H4 d (.dK [])=H5 at g4 hd4 hp4 ⊢;refine cO (xs:=cs.map V.int) (fun i ys σ H6=>H6=H5/\(∃ v,σ=[v])/\∃ ls:List Int,ys=ls.map V.int/\ls.length<=i/\∀ x∈ls,0<=x)
  (by rw [aa];exact bL (by (exact oqf))) ⟨rfl,⟨_,rfl⟩,[],rfl,ai _,fun _ z=>nomatch z⟩ (fun i ys σ H2 ⟨_,_,cs,e1,e2,_⟩=>by rw [e1,aa];assumption) (fun i ys σ H2 _ ⟨e,_⟩=>by rw [e];exact hp4) ?_ ?_
 ·rintro i y ys σ H6 hy ⟨rfl,⟨v',rfl⟩,ls,rfl,hl,l0⟩;obtain ⟨z,rfl,hz⟩:=uJ hy;have z0:0<=z:=h0 z (ap hz);refine ⟨_,rfl,_,_,rfl,rfl,⟨by decide,by decide,by decide⟩,_,_,rfl,rfl,_,rfl,?_⟩;refine rN (fun c=>?_) (fun c=>?_)
  ·refine ⟨_,rfl,rfl,⟨_,rfl⟩,ls++[z],by rw [bg];rfl,by rw [ak];show ls.length+1<=i+1;lia,fun x hx=>?_⟩;rcases du.mp hx with q | q
   ·exact l0 x q
   ·have e:x=z:=by simpa using q
    rw [e];exact z0
  ·exact ⟨rfl,⟨_,rfl⟩,ls,rfl,Nat.le_succ_of_le hl,l0⟩
 rintro ys σ H6 ⟨rfl,_,ls,rfl,hl,l0⟩ p3 np3;have g5:bB H6 (aJ H6 p3 (.lst (ls.map V.int))):=aA np3 _;refine ⟨p3,_,rfl,bI.of aC,fun l nl=>?_⟩;generalize aJ H6 p3 (.lst (ls.map V.int))=H7 at g5 nl ⊢;have g6:bB H7 (aJ H7 l (.lst (ls.map V.int).reverse)):=aA nl _;have hd7:H7 d=some (.dK []):=g5 _ _ hd4;refine ⟨g6 _ _ hd7,eX x 0 l,rfl,by show 3<=15;decide,?_⟩;have em:iT [] (eX x 0 l)=eX x 0 l:=yE _ _ _;have neld:l≠d:=fun z=>by rw [z] at nl;rw [nl] at hd7;cases hd7
 refine k d l _ ?_ ?_ ⟨x,0,ls.reverse,⟨by rw [em];exact aC,by rw [aH neld,aC,sv],x0,x1,uj 0,fun y hy=>l0 y (by simpa using hy)⟩⟩ ?_
 ·exact (g1.trans g2).free nd
 ·exact (g1.trans (g2.trans (g4.trans g5))).free nl
 ·intro c o e;rw [aH (aK e ((g1.trans g2).free nd))];exact (g1.trans (g2.trans (g4.trans (g5.trans g6)))) c o e
theorem bG6  : gN P w K mg base "parts_of" "parts_of" bS8 1 ["term"] spParts:=by
 refine iV ["term","parts","waiting","part"] fun H Q nd hr h=>?_
 obtain ⟨t,rfl,ht,hz,k⟩:=h;have hu:=lR hr;refine ⟨_,(eY 1 nd (bS cF)
  (eY 2 nd (bS (aN (pv 0)))
  (aE (rG ll (pM (pv 2) (fun _=>rfl))
  (eY 3 nd (kM aj fb fc kE (pv 2))
  (aE (bR (dG aj bo bq bM (pv 1) (aN (pv 3))))
  (aF (bE (dM bP (bV aI (pv 3) aD) aG) (aF (bR (dG aj fu fv gE (pv 2) (aN (bS (aB (bV aI (pv 3) aD) (aN (bV aI (pv 3) aD)))))))) aO)))))
  (aF (aU (pv 1)))))),?_⟩
 refine ⟨av _,fun l1 hl1=>?_⟩;obtain ⟨H1,e0,s1,h1⟩:=hV hl1 (.lst []);rw [e0];clear e0;refine ⟨_,rfl,eQ,fun l2 hl2=>?_⟩;have n2:=s1.free hl2;have ne:l2≠l1:=(aK h1 hl2).symm;have s2:=s1.trans (aA hl2 (.lst [.ref t.p]));have h12:aJ H1 l2 (.lst [.ref t.p]) l1=some (.lst []):=by rw [aH ne.symm];exact h1
 have h2:aJ H1 l2 (.lst [.ref t.p]) l2=some (.lst [.ref t.p]):=aC;generalize aJ H1 l2 (.lst [.ref t.p])=H2 at s2 h12 h2 ⊢;refine ⟨fun m σ G=>∃ (ps stk:List Tm) (v3:Option V),σ=[some (.ref t.p),some (.ref l1),some (.ref l2),v3]/\bB H G/\G l1=some (.lst (ps.map fun u=>V.ref u.p))/\G l2=some (.lst (stk.reverse.map fun u=>V.ref u.p))/\ps++stk.flatMap Tm.pre=t.pre/\(∀ u∈stk,jT H u)/\m=(stk.flatMap Tm.pre).length,
  ⟨_,[],[t],none,rfl,s2,h12,h2,by simp,fun u hu=>by rw [List.mem_singleton.mp hu];exact ht,rfl⟩,?_⟩
 rintro m σ G ⟨ps,stk,v3,rfl,s3,g1,g2,eq,hs,rfl⟩;refine ⟨_,rfl,_,.inl ⟨_,bI.of g2,rfl⟩,?_⟩;have lt:=dg List.length eq;rw [ak,Tm.pre_len] at lt;have ls:stk.length<=(stk.flatMap Tm.pre).length:=aB1 stk
 cases stk with
 |nil =>
  refine aR (by simp) ?_;rw [List.flatMap_nil,gj] at eq;exact ⟨_,rfl,k l1 G s3 hl1 (by rw [<- eq];exact g1)⟩
 |cons u rest =>
  refine bD (by simp) ?_;have hu:=hs u bh;have up:=u.size_pos;rw [rc,ak,Tm.pre_len] at lt;rw [cu,rc,ak,Tm.pre_len] at ls;refine ⟨fun σ' G'=>∃ (ps' stk':List Tm) (v3:Option V),σ'=[some (.ref t.p),some (.ref l1),some (.ref l2),v3]/\bB H G'/\G' l1=some (.lst (ps'.map fun u=>V.ref u.p))/\G' l2=some (.lst (stk'.reverse.map fun u=>V.ref u.p))/\ps'++stk'.flatMap Tm.pre=t.pre/\(∀ u∈stk',jT H u)/\(stk'.flatMap Tm.pre).length+1=((u :: rest).flatMap Tm.pre).length,
   (by rintro σ' G' ⟨ps',stk',v3',e1,e2,e3,e4,e5,e6,e7⟩;exact ⟨_,by lia,ps',stk',v3',e1,e2,e3,e4,e5,e6,rfl⟩),?_⟩
  have er:(u :: rest).reverse.map (fun u=>V.ref u.p)=rest.reverse.map (fun u=>V.ref u.p)++[V.ref u.p]:=by rw [dm,bg];rfl
  rw [er] at g2;refine ⟨_,rfl,.inl ⟨rfl,_,bI.of g2⟩,l2,_,V.ref u.p,rfl,rfl,g2,by simp,?_⟩;rw [gx];have s4:=bF (ys:=rest.reverse.map fun u=>V.ref u.p) s3 n2;have g3:aJ G l2 (.lst (rest.reverse.map fun u=>V.ref u.p)) l2=some (.lst (rest.reverse.map fun u=>V.ref u.p)):=aC;have g4:aJ G l2 (.lst (rest.reverse.map fun u=>V.ref u.p)) l1=some (.lst (ps.map fun u=>V.ref u.p)):=by rw [aH ne.symm];exact g1
  generalize aJ G l2 (.lst (rest.reverse.map fun u=>V.ref u.p))=G1 at s4 g3 g4 ⊢;refine ⟨_,rfl,.inl ⟨rfl,_,bI.of g4⟩,_,rfl,l1,_,_,rfl,rfl,g4,bL (by rw [aa];lia),?_⟩;have s5:=bF (ys:=(ps++[u]).map fun u=>V.ref u.p) s4 hl1;have ea:(ps.map fun u=>V.ref u.p)++[V.ref u.p]=(ps++[u]).map fun u=>V.ref u.p:=by rw [bg];rfl
  rw [ea];have g5:aJ G1 l1 (.lst ((ps++[u]).map fun u=>V.ref u.p)) l1=some (.lst ((ps++[u]).map fun u=>V.ref u.p)):=aC;have g6:aJ G1 l1 (.lst ((ps++[u]).map fun u=>V.ref u.p)) l2=some (.lst (rest.reverse.map fun u=>V.ref u.p)):=by rw [aH ne];exact g3
  generalize aJ G1 l1 (.lst ((ps++[u]).map fun u=>V.ref u.p))=G2 at s5 g5 g6 ⊢;have hu5:=hu.ts (.of s5);refine ⟨_,rfl,u.p,_,_,.str u.w,rfl,rfl,aQ.of hu5.at,fL,rfl,_,rfl,?_⟩
  cases u with
  |op p s a b =>
   refine bD (af rfl) ?_;refine ⟨_,rfl,.inl ⟨rfl,_,bI.of g6⟩,_,rfl,p,_,_,.ref b.p,rfl,rfl,aQ.of hu5.1,rfl,_,rfl,p,_,_,.ref a.p,rfl,rfl,aQ.of hu5.1,rfl,bJ,fun l3 hl3=>?_⟩;have s6:=s5.trans (aA hl3 (.lst [.ref b.p,.ref a.p]));have n31:l1≠l3:=aK g5 hl3;have n32:l2≠l3:=aK g6 hl3;have g7:aJ G2 l3 (.lst [.ref b.p,.ref a.p]) l3=some (.lst [.ref b.p,.ref a.p]):=aC;have g8:aJ G2 l3 (.lst [.ref b.p,.ref a.p]) l1=_:=(aH n31).trans g5;have g9:aJ G2 l3 (.lst [.ref b.p,.ref a.p]) l2=_:=(aH n32).trans g6;generalize aJ G2 l3 (.lst [.ref b.p,.ref a.p])=G3 at s6 g7 g8 g9 ⊢;refine ⟨l2,l3,_,_,rfl,rfl,g9,g7,by rw [aa,ek];have:=bL (n:=1000) (ai _);show rest.length+2<=_;lia,?_⟩;have ez:(rest.reverse.map fun u=>V.ref u.p)++[.ref b.p,.ref a.p]=(a :: b :: rest).reverse.map fun u=>V.ref u.p:=by simp
   rw [ez];refine ⟨ps++[.op p s a b],a :: b :: rest,_,rfl,bF s6 n2,(aH ne.symm).trans g8,aC,?_,fun x hx=>?_,?_⟩
   ·rw [<- eq];simp [Tm.pre]
   ·rcases cq.mp hx with e | e
    ·rw [e];exact hu.2.1
    ·rcases cq.mp e with e | e
     ·rw [e];exact hu.2.2
     ·exact hs x (ay _ e)
   ·simp [Tm.pre] <;> omega
  |num p n =>
   refine aR (fun z=>bI9 (ag z)) ?_;refine ⟨ps++[.num p n],rest,_,rfl,s5,g5,g6,?_,fun x hx=>hs x (ay _ hx),?_⟩
   ·rw [<- eq];simp [Tm.pre]
   ·simp [Tm.pre] <;> omega
  |nam p n =>
   refine aR (fun z=>bG2 (ag z)) ?_;refine ⟨ps++[.nam p n],rest,_,rfl,s5,g5,g6,?_,fun x hx=>hs x (ay _ hx),?_⟩
   ·rw [<- eq];simp [Tm.pre]
   ·simp [Tm.pre] <;> omega
theorem bD4 (C_Prt:Cl P w K mg base 1 spParts "parts_of"):gN P w K mg base "names_in" "names_in" bU6 2 ["term"] spNamesIn:=by
 refine iV ["term"] fun H Q nd hr h=>?_
 obtain ⟨t,rfl,ht,hz,k⟩:=h;have hu:=lR hr;refine ⟨_,(aF (aU (cQ ["part"] [none] (dW (bW C_Prt hr (aN (pv 0)))) (fun _ _ _ _=>(eO 0)) (fun _ _ _ _=>(mE (dM bP (bV (oR K) (pv 0) aD) aG))) (fun _ _ _ _=>(bV (oR K) (pv 0) aD))))),?_⟩;refine ⟨_,rfl,t,rfl,ht,hz,fun r H1 s1 _ h1=>⟨r,rfl,⟨_,bI.of h1⟩,?_⟩⟩;have pl:=Tm.pre_len t;refine cO (K:=K) (a:=r) (xs:=t.pre.map fun u=>V.ref u.p) (fun i ys σ G=>G=H1/\(∃ v,σ=[v])/\ys=((t.pre.take i).filterMap Tm.nm).map V.str)
  (cE (by rw [aa];lia)) ⟨rfl,⟨_,rfl⟩,rfl⟩ (fun i ys σ G ⟨_,_,e⟩=>by
   rw [e,aa];exact cj (sw _ _) (by rw [cv];lia)) (by rintro i ys σ G _ ⟨e,_⟩;rw [e];exact bI.of h1) ?_ ?_
 ·rintro i v ys σ G hv ⟨rfl,⟨v',rfl⟩,rfl⟩;obtain ⟨u,hu,rfl⟩:∃ u,t.pre[i]?=some u/\v=V.ref u.p:=by
   rw [dh] at hv
   cases e:t.pre[i]? with
   |none=>rw [e] at hv;cases hv
   |some u=>rw [e] at hv;exact ⟨u,rfl,(dk hv).symm⟩
  have hU:=(jT.pre ht u (ap hu)).ts (.of s1);refine ⟨_,rfl,u.p,_,_,.str u.w,rfl,rfl,aQ.of hU.at,fL,rfl,_,rfl,?_⟩;rw [bK hu,fm,bg]
  cases u with
  |nam p x=>exact bD (af rfl) ⟨_,rfl,p,_,_,.str x,rfl,rfl,aQ.of hU,rfl,rfl,⟨_,rfl⟩,rfl⟩
  |num p n=>exact aR (fun z=>wMN (ag z)) ⟨rfl,⟨_,rfl⟩,by rw [jj (by rfl)];simp⟩
  |op p s a b=>exact aR (fun z=>wOM (ag z)) ⟨rfl,⟨_,rfl⟩,by rw [jj (by rfl)];simp⟩
 ·rintro ys σ G ⟨rfl,_,rfl⟩ l hl;rw [aa,ci,Tm.pre_names];exact k l _ (s1.trans (aA hl _)) aC
theorem bB7 {cT:Addr}(m_THROWS:mg "THROWS"=some (.ref cT)) (hT:∀ H,aQ K H cT (dF.map V.str)):gN P w K mg base "sets_name" "sets_name" bM9 1 ["row"] spSetsN:=by
 refine iV ["row"] fun H Q nd hr h=>?_
 obtain ⟨r,rfl,hr0,k⟩:=h;refine ⟨_,(aF (aU (yZ (zU cU (bV aI (pv 0) aD) (pgl m_THROWS)) (nP (zU bP (bV aI (pv 0) aD) aG))))),?_⟩;rw [<- aJ8 (cJ.wd r hr0)] at k;refine ⟨_,rfl,r.p,_,_,.str r.w,rfl,rfl,aQ.of hr0.at,fL,cT,_,rfl,.inr (hT _),rfl,eJ _,_,rfl,?_⟩;have ei:oM (V.str r.w) (dF.map V.str)=decide (r.w∈dF):=dL _ _
 by_cases c:r.w∈dF
 ·refine bD (ei.trans (af c)) ?_;rw [af c] at k;exact k
 ·refine aR (fun z=>c (ag (ei.symm.trans z))) ?_;rw [au c,vp] at k;refine ⟨_,rfl,r.p,_,_,.str r.w,rfl,rfl,aQ.of hr0.at,fL,rfl,?_⟩;rw [show decide (V.str r.w=V.str "let")=decide (r.w="let") from by simp];exact k
theorem bF5 (C_NmI:Cl P w K mg base 2 spNamesIn "names_in"):gN P w K mg base "names_asked" "names_asked" bR7 3 ["row"] spAsked:=by
 refine iV ["row"] fun H Q nd hr h=>?_
 obtain ⟨r,rfl,hr0,k⟩:=h;refine ⟨_,(aE (bE (dM bP (bV aI (pv 0) aD) aG) (aF (aU (bW C_NmI hr (aN (bV aI (pv 0) aD))))) aO)
  (aE (bE (dM cU (bV aI (pv 0) aD) (aL (aB aG (aN aG)))) (aF (aU (bW C_NmI hr (aN (bV aI (pv 0) aD))))) aO)
  (aF (aU (bS cF))))),?_⟩
 refine ⟨_,rfl,r.p,_,_,.str r.w,rfl,rfl,aQ.of hr0.at,fL,rfl,_,rfl,?_⟩;generalize hP:r.p=P
 cases r with
 |lt p x t =>
  obtain rfl:p=P:=hP;refine bD (af rfl) ?_;refine ⟨_,rfl,p,_,_,.ref t.p,rfl,rfl,aQ.of hr0.1,rfl,t,rfl,hr0.2.1,by have:=hr0.2.2.2;(exact oqf),fun q H' s h=>k q H' s h⟩
 |tell p t =>
  obtain rfl:p=P:=hP;refine aR (fun z=>wTL (ag z)) ?_;refine ⟨_,rfl,p,_,_,.str "tell",rfl,rfl,aQ.of hr0.1,rfl,bJ,fun t2 ht2=>?_⟩;have s1:=aA ht2 (.tup [.str "tell",.str "when"]);refine ⟨t2,[.str "tell",.str "when"],rfl,.inr (aQ.of aC),rfl,by decide,_,rfl,?_⟩;refine bD (by decide +kernel) ?_;exact ⟨_,rfl,p,_,_,.ref t.p,rfl,rfl,aQ.of (s1 _ _ hr0.1),rfl,t,rfl,hr0.2.1.ts (.of s1),by have:=hr0.2.2.2;(exact oqf),fun q H' s h=>k q H' (s1.trans s) h⟩
 |when p pa pb t a b =>
  obtain rfl:p=P:=hP;refine aR (fun z=>wWL (ag z)) ?_;refine ⟨_,rfl,p,_,_,.str "when",rfl,rfl,aQ.of hr0.1,rfl,bJ,fun t2 ht2=>?_⟩;have s1:=aA ht2 (.tup [.str "tell",.str "when"]);refine ⟨t2,[.str "tell",.str "when"],rfl,.inr (aQ.of aC),rfl,by decide,_,rfl,?_⟩;refine bD (by decide +kernel) ?_;exact ⟨_,rfl,p,_,_,.ref t.p,rfl,rfl,aQ.of (s1 _ _ hr0.1),rfl,t,rfl,hr0.2.1.ts (.of s1),by have:=hr0.2.2.1.2;(exact oqf),fun q H' s h=>k q H' (s1.trans s) h⟩
 |times p pb n b =>
  obtain rfl:p=P:=hP;refine aR (fun z=>wML (ag z)) ?_;refine ⟨_,rfl,p,_,_,.str "times",rfl,rfl,aQ.of hr0.1,rfl,bJ,fun t2 ht2=>?_⟩;have s1:=aA ht2 (.tup [.str "tell",.str "when"]);refine ⟨t2,[.str "tell",.str "when"],rfl,.inr (aQ.of aC),rfl,by decide,_,rfl,?_⟩;refine aR (by decide +kernel) ?_;exact ⟨av _,fun l hl=>k l _ (s1.trans (aA hl _)) aC⟩
 |thr p w x vs am =>
  obtain rfl:p=P:=hP;have hw:=hr0.2.w;refine aR (fun z=>bG8 hw (ag z)) ?_;refine ⟨_,rfl,p,_,_,.str w,rfl,rfl,aQ.of hr0.1,fL,bJ,fun t2 ht2=>?_⟩;have s1:=aA ht2 (.tup [.str "tell",.str "when"]);refine ⟨t2,[.str "tell",.str "when"],rfl,.inr (aQ.of aC),rfl,by decide,_,rfl,?_⟩;refine aR (bJ1 hw) ?_;exact ⟨av _,fun l hl=>k l _ (s1.trans (aA hl _)) aC⟩
theorem aZ6  : gN P w K mg base "as_steps" "as_steps" bN2 1 ["rows"] spAsS:=by
 refine iV ["rows"] fun H Q nd hr h=>?_
 obtain ⟨p,rs,rfl,hp,hl,k⟩:=h;refine ⟨_,(aF (aU (cQ ["row"] [none] (mC (pv 0)) (fun _ _ _ _=>(eO 0)) (fun _ _ _ _=>eK) (fun _ _ _ _=>(aL (aB aG (aN (pv 0)))))))),?_⟩;refine ⟨_,rfl,p,rfl,⟨_,aQ.of hp⟩,gL (K:=K) (a:=p) (xs:=bG rs) (fun i zs σ G=>bB H G/\(∃ v,σ=[v])/\eL (kQ G) zs ((rs.take i).map fun r=>(("row": Str),r)))
  (by rw [bU];exact cE (by (exact oqf))) ⟨bB.refl _,⟨_,rfl⟩,trivial⟩ (by rintro i zs σ G ⟨_,_,e⟩;rw [e.length,aa,cv];lia) (by rintro i zs σ G _ ⟨e,_⟩;exact aQ.of (e _ _ hp)) ?_ ?_⟩
 ·rintro i v zs σ G hv ⟨s1,⟨v',rfl⟩,tw⟩;obtain ⟨r,rfl,hr'⟩:=iM hv;refine ⟨_,rfl,bJ,fun t ht=>⟨s1.trans (aA ht _),⟨_,rfl⟩,?_⟩⟩;rw [bK hr',bg];exact eL.append (tw.mono fun _ _ z=>kQ.ts (.of (aA ht _)) z) ⟨⟨t,rfl,aC⟩,trivial⟩
 ·rintro zs σ G ⟨s1,_,tw⟩ l hl';rw [bU,ci] at tw;exact k l zs _ (s1.trans (aA hl' _)) aC (tw.mono fun _ _ z=>kQ.ts (.of (aA hl' _)) z)
theorem bF2 (C_AsS:Cl P w K mg base 1 spAsS "as_steps"):gN P w K mg base "inner_steps" "inner_steps" bT2 2 ["row"] spInner:=by
 refine iV ["row"] fun H Q nd hr h=>?_
 obtain ⟨r,rfl,hr0,hc,k⟩:=h;refine ⟨_,(aE (bE (dM bP (bV aI (pv 0) aD) aG) (aF (aU (aM fR (aM fR (aM fR (bW C_AsS hr (aN (bV aI (pv 0) aD))) (bS (aN (aL (aB aG (aN (pv 0))))))) (bW C_AsS hr (aN (bV aI (pv 0) aD)))) (bS (aN (aL (aB aG (aN (pv 0))))))))) aO)
  (aE (bE (dM bP (bV aI (pv 0) aD) aG) (aF (aU (aM fR (bW C_AsS hr (aN (bV aI (pv 0) aD))) (bS (aN (aL (aB aG (aN (pv 0))))))))) aO)
  (aF (aU (bS cF))))),?_⟩
 refine ⟨_,rfl,r.p,_,_,.str r.w,rfl,rfl,aQ.of hr0.at,fL,rfl,_,rfl,?_⟩;have ln:=eI r.kids;have ck:=aP0 r;generalize hP:r.p=P
 cases r with
 |when p pa pb t a b =>
  obtain rfl:p=P:=hP;refine bD (af rfl) ?_;have la:a.length+b.length<=4000:=by simp only [Rw.kids,List.length_append] at ln ck;lia
  obtain ⟨hp,_,_,ha,hb,ra,rb⟩:=id hr0;refine ⟨_,rfl,p,_,_,.ref pa,rfl,rfl,aQ.of hp,rfl,pa,a,rfl,ha,by (exact oqC),fun r1 z1 H1 s1 h1 t1=>?_⟩;refine ⟨_,rfl,bJ,fun t2 ht2=>⟨eQ,fun l2 hl2=>?_⟩⟩;have s2:=(aA ht2 (.tup [.str "else",.ref p])).trans (aA hl2 (.lst [.ref t2]));have h2:aJ (aJ H1 t2 (.tup [.str "else",.ref p])) l2 (.lst [.ref t2]) l2=some (.lst [.ref t2]):=aC;have e2:kQ (aJ (aJ H1 t2 (.tup [.str "else",.ref p])) l2 (.lst [.ref t2])) (.ref t2) (("else": Str),Rw.when p pa pb t a b):=⟨t2,rfl,(aA hl2 _) _ _ aC⟩
  generalize aJ (aJ H1 t2 (.tup [.str "else",.ref p])) l2 (.lst [.ref t2])=H2 at s2 h2 e2 ⊢;have l1:=t1.length;rw [aa] at l1;refine ⟨r1,l2,_,_,rfl,rfl,s2 _ _ h1,h2,bu (cE (by rw [l1];show a.length+1<=9000000;lia)),fun l3 hl3=>?_⟩;have s3:=s2.trans (aA hl3 (.lst (z1++[.ref t2])));have h3:aJ H2 l3 (.lst (z1++[.ref t2])) l3=some (.lst (z1++[.ref t2])):=aC;have t3:eL (kQ (aJ H2 l3 (.lst (z1++[.ref t2])))) (z1++[.ref t2]) (a.map (fun r=>(("row": Str),r))++[(("else": Str),Rw.when p pa pb t a b)]):=eL.append (t1.mono fun _ _ z=>kQ.ts (.of s3) z) ⟨e2.ts (.of (aA hl3 _)),trivial⟩;generalize aJ H2 l3 (.lst (z1++[.ref t2]))=H3 at s3 h3 t3 ⊢;have g3:=s1.trans s3;refine ⟨_,rfl,p,_,_,.ref pb,rfl,rfl,aQ.of (g3 _ _ hp),rfl,pb,b,rfl,g3 _ _ hb,by (exact oqD),fun r4 z4 H4 s4 h4 t4=>?_⟩;have l4:=t4.length;rw [aa] at l4;refine ⟨l3,r4,_,_,rfl,rfl,s4 _ _ h3,h4,bu (cE (by simp only [List.length_append,List.length_cons,List.length_nil,l1,l4];lia)),fun l5 hl5=>?_⟩
  have s5:=s4.trans (aA hl5 (.lst (z1++[.ref t2]++z4)));have h5:aJ H4 l5 (.lst (z1++[.ref t2]++z4)) l5=some (.lst (z1++[.ref t2]++z4)):=aC;have t5:=eL.append (t3.mono fun _ _ z=>kQ.ts (.of s5) z) (t4.mono fun _ _ z=>kQ.ts (.of (aA hl5 (.lst (z1++[.ref t2]++z4)))) z);generalize aJ H4 l5 (.lst (z1++[.ref t2]++z4))=H5 at s5 h5 t5 ⊢;refine ⟨_,rfl,bJ,fun t6 ht6=>⟨eQ,fun l6 hl6=>?_⟩⟩;have s6:=(aA ht6 (.tup [.str "end",.ref p])).trans (aA hl6 (.lst [.ref t6]));have h6:aJ (aJ H5 t6 (.tup [.str "end",.ref p])) l6 (.lst [.ref t6]) l6=some (.lst [.ref t6]):=aC;have e6:kQ (aJ (aJ H5 t6 (.tup [.str "end",.ref p])) l6 (.lst [.ref t6])) (.ref t6) (("end": Str),Rw.when p pa pb t a b):=⟨t6,rfl,(aA hl6 _) _ _ aC⟩
  generalize aJ (aJ H5 t6 (.tup [.str "end",.ref p])) l6 (.lst [.ref t6])=H6 at s6 h6 e6 ⊢;refine ⟨l5,l6,_,_,rfl,rfl,s6 _ _ h5,h6,bu (cE (by simp only [List.length_append,List.length_cons,List.length_nil];lia)),fun l7 hl7=>?_⟩;refine k l7 _ _ (g3.trans (s5.trans (s6.trans (aA hl7 _)))) aC ?_;exact eL.append (t5.mono fun _ _ z=>kQ.ts (.of (s6.trans (aA hl7 _))) z) ⟨e6.ts (.of (aA hl7 _)),trivial⟩
 |times p pb n b =>
  obtain rfl:p=P:=hP;refine aR (fun z=>wTW (ag z)) ?_;refine ⟨_,rfl,p,_,_,.str "times",rfl,rfl,aQ.of hr0.at,fL,rfl,_,rfl,?_⟩;refine bD (af rfl) ?_;have la:b.length<=4000:=by simp only [Rw.kids] at ln ck;lia
  obtain ⟨hp,hb,rb⟩:=id hr0;refine ⟨_,rfl,p,_,_,.ref pb,rfl,rfl,aQ.of hp,rfl,pb,b,rfl,hb,by assumption,fun r1 z1 H1 s1 h1 t1=>?_⟩;refine ⟨_,rfl,bJ,fun t2 ht2=>⟨eQ,fun l2 hl2=>?_⟩⟩;have s2:=(aA ht2 (.tup [.str "end",.ref p])).trans (aA hl2 (.lst [.ref t2]));have h2:aJ (aJ H1 t2 (.tup [.str "end",.ref p])) l2 (.lst [.ref t2]) l2=some (.lst [.ref t2]):=aC;have e2:kQ (aJ (aJ H1 t2 (.tup [.str "end",.ref p])) l2 (.lst [.ref t2])) (.ref t2) (("end": Str),Rw.times p pb n b):=⟨t2,rfl,(aA hl2 _) _ _ aC⟩
  generalize aJ (aJ H1 t2 (.tup [.str "end",.ref p])) l2 (.lst [.ref t2])=H2 at s2 h2 e2 ⊢;have l1:=t1.length;rw [aa] at l1;refine ⟨r1,l2,_,_,rfl,rfl,s2 _ _ h1,h2,bu (cE (by rw [l1];show b.length+1<=9000000;lia)),fun l3 hl3=>?_⟩;refine k l3 _ _ (s1.trans (s2.trans (aA hl3 _))) aC ?_;exact eL.append (t1.mono fun _ _ z=>kQ.ts (.of (s2.trans (aA hl3 _))) z) ⟨e2.ts (.of (aA hl3 _)),trivial⟩
 |thr p w x vs am =>
  obtain rfl:p=P:=hP;have hw:=hr0.2.w;refine aR (fun z=>qV hw (ag z)) ?_;refine ⟨_,rfl,p,_,_,.str w,rfl,rfl,aQ.of hr0.at,fL,rfl,_,rfl,?_⟩;refine aR (fun z=>xF hw (ag z)) ?_;exact ⟨av _,fun l hl=>k l [] _ (aA hl _) aC trivial⟩
 |lt p x t =>
  obtain rfl:p=P:=hP;refine aR (fun z=>wLW (ag z)) ?_;refine ⟨_,rfl,p,_,_,.str "let",rfl,rfl,aQ.of hr0.at,fL,rfl,_,rfl,?_⟩;refine aR (fun z=>wLT (ag z)) ?_;exact ⟨av _,fun l hl=>k l [] _ (aA hl _) aC trivial⟩
 |tell p t =>
  obtain rfl:p=P:=hP;refine aR (fun z=>wEW (ag z)) ?_;refine ⟨_,rfl,p,_,_,.str "tell",rfl,rfl,aQ.of hr0.at,fL,rfl,_,rfl,?_⟩;refine aR (fun z=>wET (ag z)) ?_;exact ⟨av _,fun l hl=>k l [] _ (aA hl _) aC trivial⟩
theorem bB3 (C_AsS:Cl P w K mg base 1 spAsS "as_steps") (C_Inn:Cl P w K mg base 2 spInner "inner_steps") (m_reversed:mg "reversed"=none):gN P w K mg base "steps_of" "steps_of" bM1 3 ["rows"] spSteps:=by
 refine iV ["rows","steps","count","waiting","step","row"] fun H Q nd hr h=>?_
 obtain ⟨p,rs,rfl,hp,hR,hc,k⟩:=h;refine ⟨_,(eY 1 nd (bS cF)
  (eY 2 nd aD
  (aE (oX ["step"] [none] (i:=3) nd rfl (ii rfl) (aH0 (bW C_AsS hr (aN (pv 0))) (by rfl) m_reversed) (fun _ _ _ _=>(eO 0)) (fun _ _ _ _=>eK) (fun _ _ _ _=>(aL (aB (bV (oR K) (pv 0) aD) (aB (bV (oR K) (pv 0) aD) (aN lY))))))
  (aE (rG ll (pM (pv 3) (fun _=>rfl))
  (eY 4 nd (kM aj fb fc kE (pv 3))
  (aF (bE (dM bP (bV aI (pv 4) aD) aG) (eY 5 nd (bV aI (pv 4) aD)
  (aE (bR (dG aj bo bq bM (pv 1) (aN (aL (aB aG (aB (pv 5) (aN (pv 2))))))))
  (aE (bR (dG aj fu fv gE (pv 3) (aN (cQ ["inner","count"] [none,some 2] (aH0 (bW C_Inn hr (aN (pv 5))) (by rfl) m_reversed) (fun _ _ _ _=>(eO 0)) (fun _ _ _ _=>eK) (fun _ _ _ _=>(aL (aB (bV (oR K) (pv 0) aD) (aB (bV (oR K) (pv 0) aD) (aN (pv 1))))))))))
  (aF (bH6 (i:=2) nd rfl (ur rfl) aD tW))))) (aF (bR (dG aj bo bq bM (pv 1) (aN (pv 4)))))))))
  (aF (aU (pv 1))))))),?_⟩
 have rl:=eI rs;have tl:=fA rs 0;refine ⟨av _,fun l1 hl1=>?_⟩;obtain ⟨H1,e0,s1,h1⟩:=hV hl1 (.lst []);rw [e0];clear e0;refine ⟨_,rfl,p,rs,rfl,s1 _ _ hp,by (exact oqj),fun r z H2 s2 h2 t2=>⟨r,_,rfl,bI.of h2,?_⟩⟩;have zl:=t2.length;rw [aa] at zl;have t2r:=uM t2;refine vG (K:=K) (a:=r) (xs:=z) (fun i ys σ G=>bB H2 G/\(∃ v,σ=[v])/\eL (kN G) ys (((rs.map fun r=>qH 0 (("row": Str),r)).reverse).take i))
  (cE (by lia)) ⟨bB.refl _,⟨_,rfl⟩,trivial⟩ (by rintro i ys σ G ⟨_,_,e⟩;rw [e.length,cv];lia) (by rintro i ys σ G _ ⟨e,_⟩;exact bI.of (e _ _ h2)) ?_ ?_
 ·rintro i v ys σ G hv ⟨s3,⟨v',rfl⟩,tw⟩;obtain ⟨s,hs,q,rfl,hq⟩:=jU t2r hv;refine ⟨_,rfl,q,_,_,.str s.1,rfl,rfl,aQ.of (s3 _ _ hq),rfl,_,rfl,q,_,_,.ref s.2.p,rfl,rfl,aQ.of (s3 _ _ hq),rfl,by show 3<=sizeLine;decide,fun t ht=>⟨s3.trans (aA ht _),⟨_,rfl⟩,?_⟩⟩;have hs0:=List.mem_reverse.mp (ap hs);obtain ⟨r9,_,e9⟩:=kg.mp hs0;have hs9:((rs.map fun r=>qH 0 (("row": Str),r)).reverse)[i]?=some (qH 0 s):=by
   rw [<- qQ, <- sv,dh,hs];rfl
  rw [bK hs9];exact eL.append (tw.mono fun _ _ z=>kN.ts (.of (aA ht _)) z) ⟨⟨t,_,rfl,aC,fun z=>absurd (by rw [<- e9];rfl) z⟩,trivial⟩
 rintro ys σ G ⟨s3,_,tw⟩ lw hlw;have el:z.length=((rs.map fun r=>qH 0 (("row": Str),r)).reverse).length:=by rw [ek,aa];exact zl
 rw [el,ci] at tw;have s4:=s1.trans (s2.trans (s3.trans (aA hlw (.lst ys))));have h4:aJ G lw (.lst ys) lw=some (.lst ys):=aC;have ne:lw≠l1:=(aK ((s2.trans s3) _ _ h1) hlw).symm;have g1:aJ G lw (.lst ys) l1=some (.lst []):=(aH ne.symm).trans ((s2.trans s3) _ _ h1);have nw:H lw=none:=(s1.trans (s2.trans s3)).free hlw;replace tw:=tw.mono fun _ _ z=>kN.ts (.of (aA hlw (.lst ys))) z
 generalize aJ G lw (.lst ys)=H4 at s4 h4 g1 tw ⊢;refine ⟨fun m σ G=>∃ (em stk:List Stp) (ez wz:List V) (n:Nat) (v4 v5:Option V),σ=[some (.ref p),some (.ref l1),some (.int n),some (.ref lw),v4,v5]/\bB H G/\G l1=some (.lst ez)/\eL (mG G) ez em/\G lw=some (.lst wz)/\eL (kN G) wz stk.reverse/\em++fJ n stk=cR 0 rs/\(∀ s∈stk,cJ H s.2.1/\s.2.1.cnt<=4000)/\m=(fJ n stk).length,
  ⟨_,[],rs.map fun r=>qH 0 (("row": Str),r),[],ys,0,none,none,rfl,s4,g1,trivial,h4,tw,(jB rs 0 0).1,fun s hs=>by
   obtain ⟨r0,m0,e0⟩:=kg.mp hs;rw [<- e0];have:=fQ m0;exact ⟨hR.mem _ m0,by show r0.cnt<=4000;(exact oqj)⟩,rfl⟩,?_⟩
 clear tw h4 g1;rintro m σ G ⟨em,stk,ez,wz,n,v4,v5,rfl,s5,g1,t5,g2,t6,eq,hs,rfl⟩;refine ⟨_,rfl,_,.inl ⟨_,bI.of g2,rfl⟩,?_⟩;have lt:=dg List.length eq;rw [ak] at lt;have ls:=mS stk n;have l5:=t5.length;have l6:=t6.length;rw [ek] at l6
 cases stk with
 |nil =>
  obtain rfl:wz=[]:=ic.mp l6;refine aR (by simp) ?_;rw [fJ,gj] at eq;rw [eq] at t5;exact ⟨_,rfl,k l1 ez G s5 hl1 g1 t5⟩
 |cons s rest =>
  rw [dm] at t6;obtain ⟨us,u,rfl,t7,q,n0,rfl,hq,hn0⟩:=wA t6;refine bD (by simp) ?_;have hS:=hs s bh;rw [cu] at ls l6;rw [ak,cu,jo] at l6;refine ⟨fun σ' G'=>∃ (em' stk':List Stp) (ez' wz':List V) (n':Nat) (v4 v5:Option V),σ'=[some (.ref p),some (.ref l1),some (.int n'),some (.ref lw),v4,v5]/\bB H G'/\G' l1=some (.lst ez')/\eL (mG G') ez' em'/\G' lw=some (.lst wz')/\eL (kN G') wz' stk'.reverse/\em'++fJ n' stk'=cR 0 rs/\(∀ s∈stk',cJ H s.2.1/\s.2.1.cnt<=4000)/\(fJ n' stk').length+1=(fJ n (s :: rest)).length,
   (by rintro σ' G' ⟨em',stk',ez',wz',n',v4',v5',e1,e2,e3,e4,e5,e6,e7,e8,e9⟩;exact ⟨_,by lia,em',stk',ez',wz',n',v4',v5',e1,e2,e3,e4,e5,e6,e7,e8,rfl⟩),?_⟩
  refine ⟨_,rfl,.inl ⟨rfl,_,bI.of g2⟩,lw,_,V.ref q,rfl,rfl,g2,by simp,?_⟩;rw [gx];have ts6:=TS.lst (ys:=us) g2;have s6:=bF (ys:=us) s5 nw;have g3:aJ G lw (.lst us) lw=some (.lst us):=aC;have g4:aJ G lw (.lst us) l1=some (.lst ez):=(aH ne.symm).trans g1;have hq6:=ts6 _ _ hq;replace t5:=t5.mono fun _ _ z=>mG.ts ts6 z
  replace t7:=t7.mono fun _ _ z=>kN.ts ts6 z
  generalize aJ G lw (.lst us)=G1 at s6 g3 g4 hq6 t5 t7 ⊢;refine ⟨_,rfl,q,_,_,.str s.1,rfl,rfl,aQ.of hq6,rfl,rfl,_,rfl,?_⟩
  by_cases c:s.1="row"
  ·refine bD (by rw [c];exact af rfl) ?_;obtain ⟨s1',r0,k0⟩:=s;have c:s1'="row":=c;subst c;have ex:fJ n ((("row": Str),r0,k0) :: rest)=(("row": Str),r0,n) :: fJ (n+1) ((fF r0).map (qH n)++rest):=aG1 rfl;have li:=mS ((fF r0).map (qH n)++rest) (n+1);rw [ak,aa] at li;rw [ex,cu] at lt;refine ⟨_,rfl,q,_,_,.ref r0.p,rfl,rfl,aQ.of hq6,rfl,?_⟩;refine ⟨_,rfl,.inl ⟨rfl,_,bI.of g4⟩,_,rfl,_,rfl,by show 3<=sizeLine;decide,fun t ht=>?_⟩;have s7:=s6.trans (aA ht (.tup [.str "row",.ref r0.p,.int n]));have nt1:l1≠t:=aK g4 ht;have nt2:lw≠t:=aK g3 ht;have g5:aJ G1 t (.tup [.str "row",.ref r0.p,.int n]) l1=_:=(aH nt1).trans g4;have g6:aJ G1 t (.tup [.str "row",.ref r0.p,.int n]) lw=_:=(aH nt2).trans g3;have et:mG (aJ G1 t (.tup [.str "row",.ref r0.p,.int n])) (.ref t) (("row": Str),r0,n):=⟨t,rfl,aC⟩
   replace t5:=t5.mono fun _ _ z=>mG.ts (.of (aA ht (.tup [.str "row",.ref r0.p,.int n]))) z
   replace t7:=t7.mono fun _ _ z=>kN.ts (.of (aA ht (.tup [.str "row",.ref r0.p,.int n]))) z
   generalize aJ G1 t (.tup [.str "row",.ref r0.p,.int n])=G2 at s7 g5 g6 et t5 t7 ⊢;refine ⟨l1,_,_,rfl,rfl,g5,cE (by lia),?_⟩;have ts8:=TS.lst (ys:=ez++[.ref t]) g5;have s8:=bF (ys:=ez++[.ref t]) s7 hl1;have g7:aJ G2 l1 (.lst (ez++[.ref t])) l1=some (.lst (ez++[.ref t])):=aC;have g8:aJ G2 l1 (.lst (ez++[.ref t])) lw=some (.lst us):=(aH ne).trans g6;have t8:=eL.append (t5.mono fun _ _ z=>mG.ts ts8 z) (show eL (mG (aJ G2 l1 (.lst (ez++[.ref t])))) [.ref t] [(("row": Str),r0,n)] from ⟨et.ts ts8,trivial⟩);replace t7:=t7.mono fun _ _ z=>kN.ts ts8 z
   generalize aJ G2 l1 (.lst (ez++[.ref t]))=G3 at s8 g7 g8 t8 t7 ⊢;refine ⟨_,rfl,.inl ⟨rfl,_,bI.of g8⟩,_,rfl,r0,rfl,cJ.ts (.of s8) r0 hS.1,hS.2,fun qi zi H9 s9 h9 t9=>⟨qi,_,rfl,bI.of h9,?_⟩⟩;have t9r:=uM t9;have zl9:=t9.length;refine vG (K:=K) (a:=qi) (xs:=zi) (fun i ys σ G=>bB H9 G/\(∃ v,σ=[v,some (.int n)])/\eL (kN G) ys (((fF r0).map (qH n)).reverse.take i))
    (cE (by lia)) ⟨bB.refl _,⟨_,rfl⟩,trivial⟩ (by rintro i ys σ G ⟨_,_,e⟩;rw [e.length,cv];lia) (by rintro i ys σ G _ ⟨e,_⟩;exact bI.of (e _ _ h9)) ?_ ?_
   ·rintro i v ys σ G hv ⟨s3,⟨v',rfl⟩,tw⟩;obtain ⟨s,hs,q,rfl,hq⟩:=jU t9r hv;refine ⟨_,rfl,q,_,_,.str s.1,rfl,rfl,aQ.of (s3 _ _ hq),rfl,_,rfl,q,_,_,.ref s.2.p,rfl,rfl,aQ.of (s3 _ _ hq),rfl,_,rfl,by show 3<=sizeLine;decide,fun t ht=>⟨s3.trans (aA ht _),⟨_,rfl⟩,?_⟩⟩;have hs9:(((fF r0).map (qH n)).reverse)[i]?=some (qH n s):=by rw [<- sv,dh,hs];rfl
    rw [bK hs9];exact eL.append (tw.mono fun _ _ z=>kN.ts (.of (aA ht _)) z) ⟨⟨t,_,rfl,aC,fun _=>rfl⟩,trivial⟩
   rintro ys σ G5 ⟨s10,_,tw⟩ l10 hl10;have el:zi.length=((fF r0).map (qH n)).reverse.length:=by rw [ek,aa];exact zl9
   rw [el,ci] at tw;have s11:=s9.trans (s10.trans (aA hl10 (.lst ys)));have h11:aJ G5 l10 (.lst ys) l10=some (.lst ys):=aC;have n10:lw≠l10:=aK ((s9.trans s10) _ _ g8) hl10;replace tw:=tw.mono fun _ _ z=>kN.ts (.of (aA hl10 (.lst ys))) z
   generalize aJ G5 l10 (.lst ys)=G6 at s11 h11 tw ⊢;have yl:=tw.length;rw [ek,aa] at yl;refine ⟨lw,l10,_,_,rfl,rfl,s11 _ _ g8,h11,bu (cE (by lia)),?_⟩;have ts12:=(TS.of s11).trans (TS.lst (ys:=us++ys) (s11 _ _ g8));refine ⟨_,rfl,_,_,rfl,rfl,em++[(("row": Str),r0,n)],(fF r0).map (qH n)++rest,_,_,n+1,_,_,rfl,bF (s8.trans s11) nw,(aH ne.symm).trans (s11 _ _ g7),t8.mono fun _ _ z=>mG.ts ts12 z,aC,?_,?_,fun s hs'=>?_,?_⟩
   ·rw [List.reverse_append];exact eL.append (t7.mono fun _ _ z=>kN.ts ts12 z) (tw.mono fun _ _ z=>kN.ts (TS.lst (s11 _ _ g8)) z)
   ·rw [<- eq,ex];simp
   ·rcases du.mp hs' with e | e
    ·obtain ⟨s9,m9,e9⟩:=kg.mp e;rw [<- e9];exact aL0 hS.1 hS.2 m9
    ·exact hs s (ay _ e)
   ·rw [ex,cu]
  ·refine aR (fun z=>c (by have z:=ag z;injection z)) ?_;have ex:=kH (s:=s) (k:=n) (r:=rest) c;have:=mS rest n;rw [ex,cu] at lt;have hn1:=hn0 c;refine ⟨_,rfl,.inl ⟨rfl,_,bI.of g4⟩,_,rfl,l1,_,_,rfl,rfl,g4,cE (by lia),?_⟩;have ts8:=TS.lst (ys:=ez++[.ref q]) g4;refine ⟨em++[s],rest,_,_,n,_,_,rfl,bF s6 hl1,aC,eL.append (t5.mono fun _ _ z=>mG.ts ts8 z) ⟨⟨q,rfl,by rw [<- hn1];exact ts8 _ _ hq6⟩,trivial⟩,(aH ne).trans g3,t7.mono fun _ _ z=>kN.ts ts8 z,?_,fun s hs'=>hs s (ay _ hs'),?_⟩
   ·rw [<- eq,ex];simp
   ·rw [ex,cu]
theorem bE3  : gN P w K mg base "begins_rows" "begins_rows" bR3 1 ["word","row"] spBegins:=by
 refine iV ["word","row"] fun H Q nd hr h=>?_
 obtain ⟨s,rfl,hr0,k⟩:=h;refine ⟨_,(aF (aU (yZ (zU bP (pv 0) aG) (nP (xL (zU bP (pv 0) aG) (nP (zU cU (bV aI (pv 1) aD) (aL (aB aG (aN aG)))))))))),?_⟩;refine ⟨_,rfl,rfl,_,rfl,?_⟩;unfold tI yB at k
 by_cases c:s.1="else"
 ·rw [af c,Bool.true_or] at k;exact bD (by rw [c];exact af rfl) (k _ (bB.refl _))
 refine aR (fun z=>c (by have z:=ag z;injection z)) ?_;rw [au c,vp] at k;refine ⟨_,rfl,rfl,_,rfl,?_⟩
 by_cases c2:s.1="row"
 ·rw [af c2,vy] at k;refine bD (by rw [c2];exact af rfl) ?_;refine ⟨_,rfl,s.2.1.p,_,_,.str s.2.1.w,rfl,rfl,aQ.of hr0.at,fL,bJ,fun t2 ht2=>?_⟩;refine ⟨t2,(["when","times"]:List Str).map V.str,rfl,.inr (aQ.of aC),rfl,eJ _,?_⟩;rw [dL];exact k _ (aA ht2 _)
 ·rw [au c2,qe] at k;exact aR (fun z=>c2 (by have z:=ag z;injection z)) (k _ (bB.refl _))
theorem aZ8  : gN P w K mg base "first_is_amiss" "first_is_amiss" bP8 1 ["row"] spFirstA:=by
 refine iV ["row","mark","steepness","low","high"] fun H Q nd hr h=>?_
 obtain ⟨p,x,us,am,rfl,hp,ok,k⟩:=h;refine ⟨_,(eY 1 nd (bV aI (pv 0) aD)
  (eY 2 nd (bV aI (pv 0) aD)
  (eY 3 nd (bV aI (pv 0) aD)
  (eY 4 nd (bV aI (pv 0) aD)
  (aF (aU (yZ (zU tK (pv 4) (pv 3)) (yZ (bD6 (aJ2 tK tK (pv 3) (pv 1) (pv 4))) (nP (zU eW (aM fP aD (bV aI (pv 2) aD)) (bV aI (pv 2) aD))))))))))),?_⟩
 rcases ok with ⟨m,_⟩ | ⟨m,_⟩ | ⟨_,mark,a,q,c,lo,hi,y,z,rfl,hq,_,h1,h2,rfl⟩
 ·exact absurd m (by decide +kernel)
 ·exact absurd m (by decide +kernel)
 refine ⟨_,rfl,p,_,_,.int mark,rfl,rfl,aQ.of hp,rfl,?_⟩;refine ⟨_,rfl,p,_,_,.ref q,rfl,rfl,aQ.of hp,rfl,?_⟩;refine ⟨_,rfl,p,_,_,.int lo,rfl,rfl,aQ.of hp,rfl,?_⟩;refine ⟨_,rfl,p,_,_,.int hi,rfl,rfl,aQ.of hp,rfl,?_⟩;refine ⟨_,rfl,_,rfl,_,_,rfl,rfl,_,rfl,?_⟩
 by_cases c1:hi<=lo
 ·rw [af (.inl c1)] at k;exact bD (af c1) k
 refine aR (fun z=>c1 (ag z)) ?_;refine ⟨_,rfl,_,rfl,_,_,rfl,rfl,_,rfl,?_⟩
 by_cases c2:lo<=mark
 ·refine bD (af c2) ⟨_,rfl,_,_,rfl,rfl,_,rfl,_,rfl,?_⟩
  by_cases c3:mark<=hi
  ·refine aR (by rw [af c3];decide) ?_;refine ⟨_,rfl,q,_,_,.int y,rfl,rfl,aQ.of hq,rfl,_,_,rfl,rfl,.inl ⟨by decide,by decide⟩,_,rfl,q,_,_,.int z,rfl,rfl,aQ.of hq,rfl,_,_,rfl,rfl,?_⟩;show Q (.bl (decide (z < 2 * y))) H;rw [show decide (hi<=lo\/¬ (lo<=mark/\mark<=hi)\/z < 2 * y)=decide (z < 2 * y) from oe.mpr ⟨fun h=>by lia,fun h=> .inr (.inr h)⟩] at k;exact k
  ·rw [af (.inr (.inl fun z=>c3 z.2))] at k;exact bD (by rw [au c3];rfl) k
 ·rw [af (.inr (.inl fun z=>c2 z.1))] at k;refine aR (fun z=>c2 (ag z)) ⟨_,rfl,_,rfl,?_⟩;exact bD rfl k
theorem bA6 {cT:Addr}(m_THROWS:mg "THROWS"=some (.ref cT)) (hT:∀ H,aQ K H cT (dF.map V.str)) (C_FiA:Cl P w K mg base 1 spFirstA "first_is_amiss"):gN P w K mg base "range_is_amiss" "range_is_amiss" bL7 2 ["row"] spRangeA:=by
 refine iV ["row"] fun H Q nd hr h=>?_
 obtain ⟨r,rfl,hr0,k⟩:=h;refine ⟨_,(aE (bE (dM bP (bV aI (pv 0) aD) aG) (aF (aU (bW C_FiA hr (aN (pv 0))))) aO)
  (aF (aU (xL (zU cU (bV aI (pv 0) aD) (pgl m_THROWS)) (nP (zU eW (bV aI (pv 0) aD) (bV aI (pv 0) aD))))))),?_⟩
 refine ⟨_,rfl,r.p,_,_,.str r.w,rfl,rfl,aQ.of hr0.at,fL,rfl,_,rfl,?_⟩
 by_cases cf:r.w="first"
 ·refine bD (by rw [cf];exact af rfl) ?_;obtain ⟨p,w,x,vs,am,rfl⟩:∃ p w x vs am,r= .thr p w x vs am:=by
   cases r with
   |thr p w x vs am=>exact ⟨p,w,x,vs,am,rfl⟩
   |lt p x t=>exact absurd cf (by show ¬ (("let": Str)="first");decide +kernel)
   |tell p t=>exact absurd cf (by show ¬ (("tell": Str)="first");decide +kernel)
   |when p pa pb t a b=>exact absurd cf (by show ¬ (("when": Str)="first");decide +kernel)
   |times p pb n b=>exact absurd cf (by show ¬ (("times": Str)="first");decide +kernel)
  have cf:w="first":=cf;subst cf;exact ⟨_,rfl,p,x,vs,am,rfl,hr0.1,hr0.2,k⟩
 refine aR (fun z=>cf (by have z:=ag z;injection z)) ?_;refine ⟨_,rfl,r.p,_,_,.str r.w,rfl,rfl,aQ.of hr0.at,fL,cT,_,rfl,.inr (hT _),rfl,eJ _,_,rfl,?_⟩;have ei:oM (V.str r.w) (dF.map V.str)=decide (r.w∈dF):=dL _ _
 by_cases c:r.w∈dF
 ·refine bD (ei.trans (af c)) ?_;generalize hP:r.p=P
  cases r with
  |thr p w x vs am =>
   obtain rfl:p=P:=hP;rcases hr0.2 with ⟨_,a,b,lo,hi,rfl,_,rfl⟩ | ⟨_,a,b,lo,hi,rfl,_,rfl⟩ | ⟨z,_⟩
   ·exact ⟨_,rfl,p,_,_,.int lo,rfl,rfl,aQ.of hr0.1,rfl,_,rfl,p,_,_,.int hi,rfl,rfl,aQ.of hr0.1,rfl,_,_,rfl,rfl,k⟩
   ·exact ⟨_,rfl,p,_,_,.int lo,rfl,rfl,aQ.of hr0.1,rfl,_,rfl,p,_,_,.int hi,rfl,rfl,aQ.of hr0.1,rfl,_,_,rfl,rfl,k⟩
   ·exact absurd z cf
  |lt p x t=>exact absurd (show ("let": Str)∈dF from c) (by decide +kernel)
  |tell p t=>exact absurd (show ("tell": Str)∈dF from c) (by decide +kernel)
  |when p pa pb t a b=>exact absurd (show ("when": Str)∈dF from c) (by decide +kernel)
  |times p pb n b=>exact absurd (show ("times": Str)∈dF from c) (by decide +kernel)
 ·refine aR (fun z=>c (ag (ei.symm.trans z))) ?_
  cases r with
  |thr p w x vs am=>exact absurd hr0.2.w c
  |lt p x t=>exact k
  |tell p t=>exact k
  |when p pa pb t a b=>exact k
  |times p pb n b=>exact k
theorem bD8  : gN P w K mg base "in_both" "in_both" bP6 1 ["one","other"] spBoth:=by
 refine iV ["one","other","both","name"] fun H Q nd hr h=>?_
 obtain ⟨a,b,ka,kb,n,m,rfl,nab,Da,Db,hn,k⟩:=h;have hu:=lR hr;refine ⟨_,(eY 2 nd wI
  (aE (pfr (aQ4 (pv 0)) (eO 3 nd)
  (aF (bE (aY7 (aH9 hu (pv 3) (pv 1))) (aF (pdp hu (pv 2) (pv 3) sQ)) aO)))
  (aF (aU (pv 2))))),?_⟩
 refine fun d hd=>?_
 have s1:=aA hd (.dK []);have D1:Dk (aJ H d (.dK [])) d [] 0:=Dk.new aC;obtain ⟨kvs,ha,r1,r2,r3⟩:=Da.ex;have nda:a≠d:=aK ha hd;have ha1:=s1 _ _ ha;have Db1:=Db.at (s1 b);generalize aJ H d (.dK [])=H1 at s1 D1 ha1 Db1 ⊢;refine ⟨_,rfl,a,kvs,rfl,ha1,fun o=>?_⟩;have f2:∀ c u,H c=some u->c≠a->aJ H1 a (.frz o (.dK kvs)) c=some u:=fun c u e nc=>(aH nc).trans (s1 _ _ e)
 have D2:Dk (aJ H1 a (.frz o (.dK kvs))) d [] 0:=D1.at fun u e=>(aH nda.symm).trans e
 have Db2:Dk (aJ H1 a (.frz o (.dK kvs))) b kb m:=Db1.at fun u e=>(aH nab.symm).trans e
 have ha2:aJ H1 a (.frz o (.dK kvs)) a=some (.frz o (.dK kvs)):=aC;generalize aJ H1 a (.frz o (.dK kvs))=H2 at f2 D2 Db2 ha2 ⊢;have ndb:d≠b:=by
  obtain ⟨q,e,_⟩:=Db.ex;exact (aK e hd).symm
 refine aF5 (d:=a) (o:=o) (kvs:=kvs) (fun i σ G=>∃ v3,σ=[some (.ref a),some (.ref b),some (.ref d),v3]/\(∀ c u,H c=some u->c≠a->G c=some u)/\Dk G d ((aF3 (kvs.take i)).filter fun x=>decide (x∈kb)) i/\Dk G b kb m/\G a=some (.frz o (.dK kvs)))
  ⟨_,rfl,f2,D2,Db2,ha2⟩ (by rintro i σ G _ ⟨_,_,_,_,_,e⟩;exact e) ?_ ?_
 ·rintro D' i ky v σ G hv ⟨v3,rfl,f3,D3,Db3,ha3⟩;have hi:=(az.mp hv).1;obtain ⟨x,hx⟩:=r2 _ (ap hv);have hx:ky=Sum.inr x:=hx;subst hx;have en:aF3 (kvs.take (i+1))=aF3 (kvs.take i)++[x]:=by unfold aF3;rw [bK hv,fm];rfl
  obtain ⟨ov,g1,g2⟩:=Db3.get x;refine ⟨_,rfl,_,rfl,b,ov,rfl,g1,_,rfl,?_⟩;rw [g2,en,qv]
  by_cases c:x∈kb
  ·refine bD (af c) ?_;obtain ⟨ob,p1,p2,qq,rfl⟩:=D3.put (by lia) x (.bl true);refine ⟨_,rfl,_,rfl,d,_,rfl,p1,_,rfl,fun c u e nc=>?_,?_,Db3.at fun u e=>(aH ndb.symm).trans e,(aH nda).trans ha3⟩
   ·rw [aH (aK e hd)];exact f3 c u e nc
   ·rw [tj (p:=fun x=>decide (x∈kb)) (af c)];exact p2
  ·refine aR (by simpa using c) ⟨_,rfl,f3,?_,Db3,ha3⟩;rw [tq (p:=fun x=>decide (x∈kb)) (by simpa using c)]
   simpa using D3.more (df i)
 ·rintro σ G ⟨v3,rfl,f3,D3,Db3,ha3⟩;refine ⟨_,rfl,k d G f3 hd ((D3.ext fun x=>?_).more r3)⟩;rw [ci,lg,lg,aG2,r1 x]
theorem bC0 (C_RnA:Cl P w K mg base 2 spRangeA "range_is_amiss"):gN P w K mg base "range_faults" "range_faults" bK2 3 ["steps"] spRangeF:=by
 refine iV ["steps"] fun H Q nd hr h=>?_
 obtain ⟨ls,zs,rs,rfl,SH,k⟩:=h;refine ⟨_,(aF (aU (cQ ["word","row","number"] [none,none,none] (dW (pv 0)) (fun _ _ _ _=>(bX3 K (n:=3) rfl (aY (eO 0) (aY (eO 1) (aY (eO 2) dN))))) (fun _ _ _ _=>(mE (PW.pt (eR (dM bP (pv 0) aG) (eU (jJ (bW C_RnA hr (aN (pv 1))))))))) (fun _ _ _ _=>(aL (aB (pv 2) (aB aD (aN aG)))))))),?_⟩;obtain ⟨h1,t1,hR,hc⟩:=SH;have zl:=t1.length;have tl:=fA rs 0;refine ⟨_,rfl,ls,rfl,⟨_,bI.of h1⟩,cO (K:=K) (a:=ls) (xs:=zs) (fun i ys σ G=>bB H G/\(∃ v1 v2 v3,σ=[v1,v2,v3])/\eL (jV G) ys (((cR 0 rs).take i).filterMap rgF))
  (cE (by lia)) ⟨bB.refl _,⟨_,_,_,rfl⟩,trivial⟩ (by rintro i ys σ G ⟨_,_,e⟩;rw [e.length];exact cj (sw _ _) (by rw [cv];lia)) (by rintro i ys σ G _ ⟨e,_⟩;exact bI.of (e _ _ h1)) ?_ ?_⟩
 ·rintro i v ys σ G hv ⟨s2,⟨v1,v2,v3,rfl⟩,tw⟩;obtain ⟨s,hs,q,rfl,hq⟩:=jU t1 hv;have hrs:=fM rs 0 hR s (ap hs);rw [aU5 hs];refine ⟨q,_,rfl,aQ.of (s2 _ _ hq),rfl,_,_,rfl,_,_,rfl,_,_,rfl,rfl,?_⟩;refine ⟨_,rfl,rfl,_,rfl,?_⟩
  by_cases c:s.1="row"
  ·refine bD (by rw [c];exact af rfl) ⟨_,rfl,s.2.1,rfl,cJ.ts (.of s2) _ hrs,_,rfl,?_⟩
   cases ha:s.2.1.ams with
   |true =>
    refine bD rfl ⟨_,rfl,by show 3<=sizeLine;decide,fun t ht=>⟨s2.trans (aA ht _),⟨_,_,_,rfl⟩,eL.append (tw.mono fun _ _ z=>jV.ts (.of (aA ht _)) z) ?_⟩⟩;rw [show rgF s=some ((s.2.2:Int),0) by unfold rgF;rw [bc c,bc ha]];exact ⟨⟨t,rfl,by rw [bQ5];exact aC⟩,trivial⟩
   |false =>
    refine aR (by decide) ⟨s2,⟨_,_,_,rfl⟩,?_⟩;rw [show rgF s=none by unfold rgF;rw [bc c,ar (by rw [ha];exact bi)]]
    simpa using tw
  ·refine aR (fun z=>c (by have z:=ag z;injection z)) (aR (by decide) ⟨s2,⟨_,_,_,rfl⟩,?_⟩);rw [uO c]
   simpa using tw
 ·rintro ys σ G ⟨s2,_,tw⟩ l hl;rw [zl,ci,kL] at tw;exact k l ys _ (s2.trans (aA hl _)) (s2.free hl) aC (tw.mono fun _ _ z=>jV.ts (.of (aA hl _)) z)
theorem bA8 (C_SeN:Cl P w K mg base 1 spSetsN "sets_name") (C_Bth:Cl P w K mg base 1 spBoth "in_both") (C_Ask:Cl P w K mg base 3 spAsked "names_asked") (m_all:mg "all"=none) (m_dict:mg "dict"=none):gN P w K mg base "unknown_faults" "unknown_faults" bR5 4 ["steps"] spUnkF:=by
 refine iV ["steps","faults","known","kept","word","row","number","ahead"] fun H Q nd hr h=>?_
 obtain ⟨ls,zs,rs,rfl,SH,k⟩:=h;have hu:=lR hr;refine ⟨_,(eY 1 nd (bS cF)
  (eY 2 nd wI
  (eY 3 nd (bS cF)
  (aE (pfr (dW (pv 0)) (eG rfl (aY (eO 4 nd) (aY (eO 5 nd) (aY (eO 6 nd) dN))))
  (aF (bE (dM bP (pv 4) aG) (aE (fK (bE (rC (jJ (iK aI4 m_all PyProof.Rows.boot_all (aN (cQ ["name","known"] [none,some 2] (dW (bW C_Ask hr (aN (pv 5)))) (fun _ _ _ _=>(eO 0)) (fun _ _ _ _=>eK) (fun _ _ _ _=>(bB4 (aH9 hu (pv 0) (pv 1))))))))) (aF (bR (dG aj bo bq bM (pv 1) (aN (aL (aB (pv 6) (aB aD (aN aG)))))))) aO))
  (aE (fK (bE (jJ (bW C_SeN hr (aN (pv 5)))) (aF (pdp hu (pv 2) (bV aI (pv 5) aD) sQ)) aO))
  (aF (bE (dM bP (bV aI (pv 5) aD) aG) (aF (bR (dG aj bo bq bM (pv 3) (aN (xD yG m_dict PyProof.Rows.boot_dict (aN (pv 2))))))) aO)))) (aF (bE (dM bP (pv 4) aG) (eY 7 nd (kM aj fb fc kE (pv 3))
  (aE (bR (dG aj bo bq bM (pv 3) (aN (pv 2))))
  (aF (kZ 2 nd (pv 7))))) (aF (bE (dM bP (bV aI (pv 5) aD) aG) (aF (kZ 2 nd (bW C_Bth hr (aB (kM aj fb fc kE (pv 3)) (aN (pv 2)))))) aO)))))))
  (aF (aU (pv 1))))))),?_⟩
 obtain ⟨h1,t1,hR,hc⟩:=SH;have zl:=t1.length;have tl:=fA rs 0;have full:=qC rs 0 [] [] [];refine ⟨av _,fun lf hlf=>?_⟩;obtain ⟨HA,e0,sA,gA⟩:=hV hlf (.lst []);rw [e0];clear e0;refine fun kd hkd=>?_
 have hkd0:=sA.free hkd;have sB:=sA.trans (aA hkd (.dK []));have gB:=aA hkd (.dK []) _ _ gA;have dB:Dk (aJ HA kd (.dK [])) kd [] 0:=Dk.new aC;generalize aJ HA kd (.dK [])=HB at sB gB dB ⊢;refine ⟨av _,fun lk hlk=>?_⟩;have hlk0:=sB.free hlk;have nfk:lf≠lk:=aK gB hlk;have sC:=sB.trans (aA hlk (.lst []));have gC:=aA hlk (.lst []) _ _ gB;have dC:=dB.at (aA hlk (.lst []) kd);have kC:aJ HB lk (.lst []) lk=some (.lst []):=aC;generalize aJ HB lk (.lst [])=HC at sC gC dC kC ⊢;refine ⟨_,rfl,ls,rfl,⟨_,bI.of (sC _ _ h1)⟩,rS (K:=K) (a:=ls) (xs:=zs) (fun i σ G=>∃ (kd:Addr) (ads:List Addr) (fz:List V) (F:List Ft) (kn:List Str) (kp:List (List Str)) (v4 v5 v6 v7:Option V),σ=[some (.ref ls),some (.ref lf),some (.ref kd),some (.ref lk),v4,v5,v6,v7]/\bB H G/\G lf=some (.lst fz)/\eL (jV G) fz F/\G lk=some (.lst (ads.reverse.map V.ref))/\(kd :: ads).Nodup/\(∀ a∈kd :: ads,H a=none)/\pG G i (kd :: ads) (kn :: kp)/\fC iC ((cR 0 rs).take i) ([],[],[])=some (F,kn,kp))
  ⟨kd,[],[],[],[],[],_,_,_,_,rfl,sC,gC,trivial,kC,by simp,fun a ha=>by rw [List.mem_singleton.mp ha];exact hkd0,⟨dC,trivial⟩,rfl⟩ (by rintro i σ G _ ⟨_,_,_,_,_,_,_,_,_,_,_,e,_⟩;exact bI.of (e _ _ h1)) ?_ ?_⟩
 ·rintro D' N i hN v σ G hv ⟨kd,ads,fz,F,kn,kp,v4,v5,v6,v7,rfl,s3,gf,tF,gk,nd,fr,DL,hrun⟩;obtain ⟨s,hs,q,rfl,hq0⟩:=jU t1 hv;have hi:=(az.mp hs).1;obtain ⟨⟨F',kn',kp'⟩,e1,e2⟩:=zE iC full hs hrun;have kl:=mL (fun st:USt=>st.2.2.length) bS4 _ _ _ hrun;have fl:=mL (fun st:USt=>st.1.length) bI8 _ _ _ hrun;have lF:=tF.length;simp only [List.length_nil,List.length_take] at kl fl;have al:=DL.len;simp only [List.length_cons] at al;have kl:kp.length<=i:=by lia
  have hq:=s3 _ _ hq0;have hrs0:=fM rs 0 hR s (ap hs);have hw:=cJ.wd _ hrs0;have hrs:=cJ.ts (.of s3) s.2.1 hrs0;refine ⟨q,_,rfl,aQ.of hq,rfl,_,_,rfl,_,_,rfl,_,_,rfl,rfl,?_⟩;refine ⟨_,rfl,rfl,_,rfl,?_⟩;have dks:=DL.is;have nlk:∀ a∈kd :: ads,a≠lk:=fun a ha z=>by
   obtain ⟨w,e⟩:=dks a ha;rw [z,gk] at e;cases e
  have nlf:∀ a∈kd :: ads,a≠lf:=fun a ha z=>by
   obtain ⟨w,e⟩:=dks a ha;rw [z,gf] at e;cases e
  unfold iC at e1
  by_cases c:s.1="row"
  ·rw [bc c] at e1;refine bD (by rw [c];exact af rfl) ?_;refine ⟨fun σ' G'=>∃ fz',σ'=[some (.ref ls),some (.ref lf),some (.ref kd),some (.ref lk),some (.str s.1),some (.ref s.2.1.p),some (.int s.2.2),v7]/\bB H G'/\G' lf=some (.lst fz')/\eL (jV G') fz' (F++mQ s.2.2 kn s.2.1.asked)/\G' lk=some (.lst (ads.reverse.map V.ref))/\pG G' i (kd :: ads) (kn :: kp),?_,?_⟩
   ·refine ⟨_,rfl,s.2.1,rfl,hrs,fun rq H4 s4 h4=>⟨rq,rfl,⟨_,bI.of h4⟩,?_⟩⟩;have DL4:=DL.at (ai _) fun a _ o e=>s4 _ _ e
    have al':s.2.1.asked.length<=9000000:=aB7 hrs0;refine cO (K:=K) (a:=rq) (xs:=s.2.1.asked.map V.str) (fun j ys σ G'=>G'=H4/\(∃ v,σ=[v,some (.ref kd)])/\ys=(s.2.1.asked.take j).map fun y=>V.bl (decide (y∈kn)))
     (cE (by rw [aa];exact al')) ⟨rfl,⟨_,rfl⟩,rfl⟩ (by rintro j ys σ G' ⟨_,_,e⟩;rw [e,aa,cv];lia) (by rintro j ys σ G' _ ⟨e,_⟩;rw [e];exact bI.of h4) ?_ ?_
    ·rintro j v ys σ G' hv ⟨rfl,⟨v',rfl⟩,rfl⟩;obtain ⟨y,rfl,hy⟩:=eT hv;obtain ⟨ov,g1,g2⟩:=DL4.1.get y;refine ⟨_,rfl,_,rfl,kd,ov,rfl,g1,rfl,⟨_,rfl⟩,?_⟩;rw [g2,bK hy,bg];rfl
    rintro ys σ G' ⟨rfl,_,rfl⟩ l5 hl5;rw [aa,ci];have s5:=s4.trans (aA hl5 (.lst (s.2.1.asked.map fun y=>V.bl (decide (y∈kn)))));have h5:aJ G' l5 (.lst (s.2.1.asked.map fun y=>V.bl (decide (y∈kn)))) l5=some (.lst ((s.2.1.asked.map fun y=>decide (y∈kn)).map V.bl)):=by rw [aC,ke];rfl
    generalize aJ G' l5 (.lst (s.2.1.asked.map fun y=>V.bl (decide (y∈kn))))=G5 at s5 h5 ⊢;refine ⟨l5,_,rfl,bI.of h5,_,rfl,?_⟩;have DL5:=DL.at (ai _) fun a _ o e=>s5 _ _ e
    have tF5:=tF.mono fun _ _ z=>jV.ts (.of s5) z
    have gf5:=s5 _ _ gf;have gk5:=s5 _ _ gk
    by_cases ca:∀ y∈s.2.1.asked,y∈kn
    ·refine aR (by rw [yX.mpr ca];decide) ⟨fz,rfl,s3.trans s5,gf5,?_,gk5,DL5⟩;unfold mQ;rw [bc ca,gj];exact tF5
    ·refine bD (by rw [show (s.2.1.asked.map fun y=>decide (y∈kn)).all id=false from my.mpr fun z=>ca (yX.mp z)];rfl) ?_;refine ⟨_,rfl,.inl ⟨rfl,_,bI.of gf5⟩,_,rfl,by show 3<=sizeLine;decide,fun t ht=>?_⟩;have s6:=aA ht (.tup [.int s.2.2,.int 1,.str "unknown"]);have e6:jV (aJ G5 t (.tup [.int s.2.2,.int 1,.str "unknown"])) (.ref t) ((s.2.2:Int),1):=⟨t,rfl,by rw [bO3];exact aC⟩
     have s36:=(s3.trans s5).trans s6;have gf6:=s6 _ _ gf5;have gk6:=s6 _ _ gk5;have DL6:=DL5.at (ai _) fun a _ o e=>s6 _ _ e
     have tF6:=tF5.mono fun _ _ z=>jV.ts (.of s6) z
     generalize aJ G5 t (.tup [.int s.2.2,.int 1,.str "unknown"])=G6 at s6 e6 s36 gf6 gk6 DL6 tF6 ⊢;refine ⟨lf,_,_,rfl,rfl,gf6,cE (by lia),fz++[.ref t],rfl,bF s36 hlf,aC,?_,(aH nfk.symm).trans gk6,DL6.at (ai _) fun a ha o e=>(aH (nlf a ha)).trans e⟩;unfold mQ;rw [ar ca];exact eL.append (tF6.mono fun _ _ z=>jV.ts (TS.lst gf6) z) ⟨e6.ts (TS.lst gf6),trivial⟩
   rintro σ1 G5 ⟨fz1,rfl,s35,gf5,tF5,gk5,DL5⟩;refine ⟨fun σ' G'=>σ'=[some (.ref ls),some (.ref lf),some (.ref kd),some (.ref lk),some (.str s.1),some (.ref s.2.1.p),some (.int s.2.2),v7]/\bB H G'/\G' lf=some (.lst fz1)/\eL (jV G') fz1 (F++mQ s.2.2 kn s.2.1.asked)/\G' lk=some (.lst (ads.reverse.map V.ref))/\pG G' (i+1) (kd :: ads) ((kn++s.2.1.sets.toList) :: kp),?_,?_⟩
   ·refine ⟨_,rfl,s.2.1,rfl,cJ.ts (.of s35) s.2.1 hrs0,_,rfl,?_⟩
    cases hst:s.2.1.sets with
    |none =>
     refine aR (by simp) ⟨rfl,s35,gf5,tF5,gk5,?_⟩;show pG G5 (i+1) (kd :: ads) ((kn++[]) :: kp);rw [gj];exact DL5.at (df _) fun a _ o e=>e
    |some x =>
     refine bD rfl ?_;obtain ⟨us,hus⟩:=aW2 (cJ.ts (.of s35) s.2.1 hrs0) hst;obtain ⟨ob,p1,p2,qq,rfl⟩:=DL5.1.put (by lia) x (.bl true);obtain ⟨w0,d0⟩:=DL5.is kd bh;refine ⟨_,rfl,_,rfl,s.2.1.p,_,_,.str x,rfl,rfl,aQ.of hus,at1,kd,_,rfl,p1,rfl,?_,?_,tF5.mono fun _ _ z=>jV.ts (fun c ys e=>(aH (jE e d0 (by intro z;cases z))).trans e) z,?_,p2,?_⟩
     ·intro b u e;rw [aH (aK e (fr kd bh))];exact s35 b u e
     ·rw [aH (nlf kd bh).symm];exact gf5
     ·rw [aH (nlk kd bh).symm];exact gk5
     ·refine pG.at (df i) DL5.2 fun a ha o e=>?_
      have:a≠kd:=fun z=>(gm.mp nd).1 (by rw [<- z];exact ha)
      rw [aH this];exact e
   ·rintro σ' G' ⟨rfl,s6,gf6,tF6,gk6,DL6⟩;refine ⟨_,rfl,s.2.1.p,_,_,.str s.2.1.w,rfl,rfl,aQ.of (cJ.ts (.of s6) s.2.1 hrs0).at,fL,rfl,_,rfl,?_⟩;unfold rJ at e1;rw [aX9 hw]
    cases hb:jS s.2.1 with
    |false =>
     rw [hb] at e1
     cases e1
     exact aR (by decide) (hN _ _ ⟨kd,ads,_,_,_,_,_,_,_,_,rfl,s6,gf6,tF6,gk6,nd,fr,DL6,e2⟩)
    |true =>
     rw [hb] at e1
     cases e1
     refine bD rfl ?_;obtain ⟨kvs,z1,z2⟩:=DL6.1.ex;refine ⟨_,rfl,.inl ⟨rfl,_,bI.of gk6⟩,_,rfl,kd,kvs,rfl,z1,fun d7 hd7=>?_⟩;have f7:=s6.free hd7;have s7:=aA hd7 (.dK kvs);have D7:Dk (aJ G' d7 (.dK kvs)) d7 (kn++s.2.1.sets.toList) (i+1):=⟨kvs,aC,z2⟩
     have n7:d7∉kd :: ads:=fun m=>by
      obtain ⟨w,e⟩:=DL6.is d7 m;rw [e] at hd7;cases hd7
     have n7k:d7≠lk:=(aK gk6 hd7).symm;have DL7:=DL6.at (ai _) fun a _ o e=>s7 _ _ e
     have gf7:=s7 _ _ gf6;have tF7:=tF6.mono fun _ _ z=>jV.ts (.of s7) z
     have gk7:=s7 _ _ gk6;have s67:=s6.trans s7;generalize aJ G' d7 (.dK kvs)=G7 at s7 D7 DL7 gf7 tF7 gk7 s67 ⊢;refine ⟨lk,_,_,rfl,rfl,gk7,cE (by rw [aa,ek];lia),?_⟩;refine (hN _ _ ⟨kd,d7 :: ads,_,_,_,_,_,_,_,_,rfl,bF s67 hlk0,(aH nfk).trans gf7,tF7.mono fun _ _ z=>jV.ts (TS.lst gk7) z,?_,?_,?_,?_,e2⟩)
     ·rw [aC,dm,bg];rfl
     ·rw [gm] at nd ⊢;refine ⟨fun m=>?_,gm.mpr ⟨fun m=>n7 (ay _ m),nd.2⟩⟩;rcases cq.mp m with e | e
      ·exact n7 (by rw [<- e];exact bh)
      ·exact nd.1 e
     ·intro a ha;rcases cq.mp ha with e | e
      ·exact fr a (by rw [e];exact bh)
      ·rcases cq.mp e with e | e
       ·rw [e];exact f7
       ·exact fr a (ay _ e)
     ·refine ⟨DL7.1.at fun o e=>(aH (nlk kd bh)).trans e,D7.at fun o e=>(aH n7k).trans e,pG.at (ai _) DL7.2 fun a ha o e=>(aH (nlk a (ay _ ha))).trans e⟩
  ·rw [ar c] at e1;refine aR (fun z=>c (by have z:=ag z;injection z)) ?_;refine ⟨_,rfl,rfl,_,rfl,?_⟩
   by_cases c2:s.1="else"
   ·rw [bc c2] at e1;refine bD (by rw [c2];exact af rfl) ?_
    cases kp with
    |nil=>cases e1
    |cons a0 r0 =>
    have e1:some (F,a0,kn :: r0)=some (F',kn',kp'):=e1;injection e1 with e1
    injection e1 with q0 e1
    injection e1 with q1 q2
    subst q0 q1 q2;obtain ⟨ad,rest,rfl,Da,Dr⟩:=DL.2.cons;have er:(ad :: rest).reverse.map V.ref=rest.reverse.map V.ref++[V.ref ad]:=by rw [dm,bg];rfl
    rw [er] at gk;refine ⟨_,rfl,.inl ⟨rfl,_,bI.of gk⟩,lk,_,V.ref ad,rfl,rfl,gk,by simp,?_⟩;rw [gx];have s4:=bF (ys:=rest.reverse.map V.ref) s3 hlk0;have g4:aJ G lk (.lst (rest.reverse.map V.ref)) lk=some (.lst (rest.reverse.map V.ref)):=aC;have gf4:aJ G lk (.lst (rest.reverse.map V.ref)) lf=_:=(aH nfk).trans gf;have tF4:=tF.mono fun _ _ z=>jV.ts (TS.lst (ys:=rest.reverse.map V.ref) gk) z
    have DL4:pG (aJ G lk (.lst (rest.reverse.map V.ref))) i (kd :: ad :: rest) (kn :: a0 :: r0):=DL.at (ai _) fun a ha o e=>(aH (nlk a ha)).trans e
    generalize aJ G lk (.lst (rest.reverse.map V.ref))=G4 at s4 g4 gf4 tF4 DL4 ⊢;refine ⟨_,rfl,.inl ⟨rfl,_,bI.of g4⟩,_,rfl,lk,_,_,rfl,rfl,g4,cE (by rw [aa,ek];simp only [List.length_cons] at al kl;lia),?_⟩;refine ⟨_,rfl,hN _ _ ⟨ad,kd :: rest,_,_,_,_,_,_,_,_,rfl,bF s4 hlk0,(aH nfk).trans gf4,tF4.mono fun _ _ z=>jV.ts (TS.lst g4) z,?_,?_,?_,?_,e2⟩⟩
    ·rw [aC,dm,bg];rfl
    ·exact (List.Perm.swap kd ad rest).nodup_iff.mpr nd |> fun z=>z
    ·intro a ha;refine fr a ?_;rcases cq.mp ha with e | e
     ·rw [e];simp
     ·rcases cq.mp e with e | e
      ·rw [e];simp
      ·simp [e]
    ·have DL5:pG (aJ G4 lk (.lst (rest.reverse.map V.ref++[V.ref kd]))) (i+1) (kd :: ad :: rest) (kn :: a0 :: r0):=DL4.at (df _) fun a ha o e=>(aH (nlk a ha)).trans e
     exact ⟨DL5.2.1,DL5.1,DL5.2.2⟩
   ·rw [ar c2] at e1;refine aR (fun z=>c2 (by have z:=ag z;injection z)) ?_;refine ⟨_,rfl,s.2.1.p,_,_,.str s.2.1.w,rfl,rfl,aQ.of hrs.at,fL,rfl,_,rfl,?_⟩;rw [aX9 hw]
    cases hb:jS s.2.1 with
    |false =>
     rw [hb] at e1
     cases e1
     exact aR (by decide) (hN _ _ ⟨kd,ads,_,_,_,_,_,_,_,_,rfl,s3,gf,tF,gk,nd,fr,DL.at (df _) fun a _ o e=>e,e2⟩)
    |true =>
     rw [hb] at e1;refine bD rfl ?_
     cases kp with
     |nil=>cases e1
     |cons a0 r0 =>
     have e1:some (F,kn.filter (fun x=>decide (x∈a0)),r0)=some (F',kn',kp'):=e1;injection e1 with e1
     injection e1 with q0 e1
     injection e1 with q1 q2
     subst q0 q1 q2;obtain ⟨ad,rest,rfl,Da,Dr⟩:=DL.2.cons;have er:(ad :: rest).reverse.map V.ref=rest.reverse.map V.ref++[V.ref ad]:=by rw [dm,bg];rfl
     rw [er] at gk;refine ⟨_,rfl,.inl ⟨rfl,_,bI.of gk⟩,lk,_,V.ref ad,rfl,rfl,gk,by simp,?_⟩;rw [gx];have s4:=bF (ys:=rest.reverse.map V.ref) s3 hlk0;have g4:aJ G lk (.lst (rest.reverse.map V.ref)) lk=some (.lst (rest.reverse.map V.ref)):=aC;have gf4:aJ G lk (.lst (rest.reverse.map V.ref)) lf=_:=(aH nfk).trans gf;have tF4:=tF.mono fun _ _ z=>jV.ts (TS.lst (ys:=rest.reverse.map V.ref) gk) z
     have DL4:pG (aJ G lk (.lst (rest.reverse.map V.ref))) i (kd :: ad :: rest) (kn :: a0 :: r0):=DL.at (ai _) fun a ha o e=>(aH (nlk a ha)).trans e
     have nka:=nlk ad (by simp);have nfa:=nlf ad (by simp);generalize aJ G lk (.lst (rest.reverse.map V.ref))=G4 at s4 g4 gf4 tF4 DL4 ⊢;have nd2:=gm.mp nd;have nd3:=gm.mp nd2.2;refine ⟨_,rfl,ad,kd,a0,kn,i,i,rfl,fun z=>nd2.1 (by rw [<- z];simp),DL4.2.1,DL4.1,by lia,fun d5 H5 f5 fd5 D5=>?_⟩;have n5:∀ a∈rest,d5≠a:=fun a ha z=>by
      obtain ⟨w,e⟩:=DL4.is a (by simp [ha]);rw [z,e] at fd5;cases fd5
     obtain ⟨w0,d0⟩:=DL4.is ad (by simp);refine (hN _ _ ⟨d5,rest,_,_,_,_,_,_,_,_,rfl,fun b u e=>?_,f5 _ _ gf4 nfa.symm,tF4.mono fun _ _ z=>jV.ts (fun c ys e=>f5 _ _ e (jE e d0 (by intro z;cases z))) z,f5 _ _ g4 nka.symm,?_,fun a ha=>?_,⟨(D5.more (df _)).ext fun x=>by simp only [List.mem_filter,decide_eq_true_eq];exact And.comm,pG.at (df _) DL4.2.2 fun a ha o e=>f5 _ _ e fun z=>nd3.1 (by rw [<- z];exact ha)⟩,e2⟩)
     ·exact f5 _ _ (s4 _ _ e) (aK e (fr ad (by simp)))
     ·exact gm.mpr ⟨fun m=>n5 d5 m rfl,nd3.2⟩
     ·rcases cq.mp ha with e | e
      ·rw [e];exact s4.free fd5
      ·exact fr a (by simp [e])
 ·rintro σ G ⟨kd,ads,fz,F,kn,kp,v4,v5,v6,v7,rfl,s3,gf,tF,gk,nd,fr,DL,hrun⟩;rw [zl,ci,full] at hrun
  cases hrun
  exact ⟨_,rfl,k lf fz G s3 hlf gf tF⟩
theorem bF4 (C_Bgn:Cl P w K mg base 1 spBegins "begins_rows"):gN P w K mg base "tells_faults" "tells_faults" bK6 4 ["steps"] spTelF:=by
 refine iV ["steps","faults","counts","word","row","number","inner","other"] fun H Q nd hr h=>?_
 obtain ⟨ls,zs,rs,rfl,SH,hT,_,k⟩:=h;refine ⟨_,(eY 1 nd (bS cF)
  (eY 2 nd (bS (aN aD))
  (aE (pfr (dW (pv 0)) (eG rfl (aY (eO 3 nd) (aY (eO 4 nd) (aY (eO 5 nd) dN))))
  (aF (bE (jJ (bW C_Bgn hr (aB (pv 3) (aN (pv 4))))) (aF (bR (dG aj bo bq bM (pv 2) (aN aD)))) (aF (bE (dM bP (bV aI (pv 4) aD) aG) (aF (uH (pv 2) lY pS aD tW qN)) (aF (bE (PW.pt (eR (dM bP (pv 3) aG) (eU (dM bP (bV aI (pv 4) aD) aG)))) (eY 6 nd (kM aj fb fc kE (pv 2))
  (aF (uH (pv 2) lY pS (aM fP (bV aI (pv 4) aD) (pv 6)) tW qN))) (aF (bE (dM bP (pv 3) aG) (eY 7 nd (kM aj fb fc kE (pv 2))
  (eY 6 nd (kM aj fb fc kE (pv 2))
  (aE (uH (pv 2) lY pS (pv 6) tW qN)
  (aF (bE (dM aW4 (pv 6) (pv 7)) (aF (bR (dG aj bo bq bM (pv 1) (aN (aL (aB (pv 5) (aB aD (aN aG)))))))) aO))))) aO)))))))))
  (aF (aU (pv 1)))))),?_⟩
 obtain ⟨h1,t1,hR,hc⟩:=SH;have zl:=t1.length;have tl:=fA rs 0;have full:=rE rs 0 [] 0 [] (aX.wd rs hR);refine ⟨av _,fun lf hlf=>?_⟩;obtain ⟨HA,e0,sA,gA⟩:=hV hlf (.lst []);rw [e0];clear e0;refine ⟨eQ,fun lc hlc=>?_⟩;have hlc0:=sA.free hlc;have nfc:lf≠lc:=aK gA hlc;have sB:=sA.trans (aA hlc (.lst [.int 0]));have gB:=aA hlc (.lst [.int 0]) _ _ gA;have cB:aJ HA lc (.lst [.int 0]) lc=some (.lst (([0]:List Int).reverse.map V.int)):=aC;generalize aJ HA lc (.lst [.int 0])=HB at sB gB cB ⊢;refine ⟨_,rfl,ls,rfl,⟨_,bI.of (sB _ _ h1)⟩,rS (K:=K) (a:=ls) (xs:=zs) (fun i σ G=>∃ (fz:List V) (F:List Ft) (st:List Int) (v3 v4 v5 v6 v7:Option V),σ=[some (.ref ls),some (.ref lf),some (.ref lc),v3,v4,v5,v6,v7]/\bB H G/\G lf=some (.lst fz)/\eL (jV G) fz F/\G lc=some (.lst (st.reverse.map V.int))/\fC gM ((cR 0 rs).take i) ([],[0])=some (F,st))
  ⟨[],[],[0],_,_,_,_,_,rfl,sB,gB,trivial,cB,rfl⟩ (by rintro i σ G _ ⟨_,_,_,_,_,_,_,_,_,e,_⟩;exact bI.of (e _ _ h1)) ?_ ?_⟩
 ·rintro D' N i hN v σ G hv ⟨fz,F,st,v3,v4,v5,v6,v7,rfl,s3,gf,tF,gc,hrun⟩;obtain ⟨s,hs,q,rfl,hq0⟩:=jU t1 hv;have hi:=(az.mp hs).1;obtain ⟨⟨F',st'⟩,e1,e2⟩:=zE gM full hs hrun;have sl:=mL (fun st:TSt=>st.2.length) bO8 _ _ _ hrun;have fl:=mL (fun st:TSt=>st.1.length) bH4 _ _ _ hrun;have lF:=tF.length;simp only [List.length_nil,List.length_cons,List.length_take] at sl fl;have hT0:=kK rs 0 hT s (ap hs);have hrs0:=fM rs 0 hR s (ap hs);have hw:=cJ.wd _ hrs0;refine ⟨q,_,rfl,aQ.of (s3 _ _ hq0),rfl,_,_,rfl,_,_,rfl,_,_,rfl,rfl,?_⟩;refine ⟨_,rfl,_,rfl,s,rfl,cJ.ts (.of s3) s.2.1 hrs0,fun G1 s4=>⟨_,rfl,?_⟩⟩;have s5:=s3.trans s4;have gf1:=s4 _ _ gf;have gc1:=s4 _ _ gc;have tF1:=tF.mono fun _ _ z=>jV.ts (.of s4) z
  have hrs:=cJ.ts (.of s5) s.2.1 hrs0;have sz:(st.reverse.map V.int).length < sizeLine:=by rw [aa,ek];exact cE (by lia)
  unfold gM at e1
  by_cases c1:tI s=true
  ·rw [bc c1] at e1
   cases e1
   refine bD c1 ⟨_,rfl,.inl ⟨rfl,_,bI.of gc1⟩,lc,_,_,rfl,rfl,gc1,sz,?_⟩;refine (hN _ _ ⟨fz,F,0 :: st,_,_,_,_,_,rfl,bF s5 hlc0,(aH nfc).trans gf1,tF1.mono fun _ _ z=>jV.ts (TS.lst gc1) z,?_,e2⟩);rw [aC,dm,bg];rfl
  rw [ar c1] at e1;refine aR c1 ?_;refine ⟨_,rfl,s.2.1.p,_,_,.str s.2.1.w,rfl,rfl,aQ.of hrs.at,fL,rfl,_,rfl,?_⟩;rw [bQ8 hw]
  by_cases c2:qL s.2.1=true
  ·rw [bc c2] at e1;refine bD c2 ?_
   cases st with
   |nil=>cases e1
   |cons c0 r0 =>
   cases e1
   have er:(c0 :: r0).reverse.map V.int=r0.reverse.map V.int++[V.int c0]:=by rw [dm,bg];rfl
   rw [er] at gc1;refine ⟨_,rfl,lc,_,_,rfl,rfl,bI.of gc1,_,_,rfl,rfl,lc,_,_,rfl,rfl,gc1,?_⟩;refine (hN _ _ ⟨fz,F,(c0+1) :: r0,_,_,_,_,_,rfl,bF s5 hlc0,(aH nfc).trans gf1,tF1.mono fun _ _ z=>jV.ts (TS.lst gc1) z,?_,e2⟩);rw [aC,dm,bg];rfl
  rw [ar c2] at e1;refine aR c2 ?_;refine ⟨_,rfl,rfl,_,rfl,?_⟩
  by_cases c3:s.1="end"
  ·rw [bc c3] at e1;refine bD (by rw [c3];exact af rfl) ?_;refine ⟨_,rfl,s.2.1.p,_,_,.str s.2.1.w,rfl,rfl,aQ.of hrs.at,fL,rfl,_,rfl,?_⟩;obtain ⟨w0,r,n⟩:=s;have c3:w0="end":=c3;subst c3;have e1:vO r n (F,st)=some (F',st'):=e1;have hT0:kB r:=hT0;have hrs:cJ G1 r:=hrs;generalize hP:(("end": Str),r,n).2.1.p=P
   cases r with
   |times p pb m b =>
    obtain rfl:p=P:=hP;refine bD (af rfl) ?_
    match st,e1,gc1,sl,e2 with
    |i0 :: c0 :: r0,e1,gc1,sl,e2 =>
    have e1:some (F,(c0+m * i0) :: r0)=some (F',st'):=e1;have bd:0<=m/\m<=9:=⟨hT0.1,hT0.2.1⟩
    ·cases e1
     have er:(i0 :: c0 :: r0).reverse.map V.int=(r0.reverse.map V.int++[V.int c0])++[V.int i0]:=by simp
     rw [er] at gc1;refine ⟨_,rfl,.inl ⟨rfl,_,bI.of gc1⟩,lc,_,.int i0,rfl,rfl,gc1,by simp,?_⟩;rw [gx];have s6:=bF (ys:=r0.reverse.map V.int++[V.int c0]) s5 hlc0;have g6:aJ G1 lc (.lst (r0.reverse.map V.int++[V.int c0])) lc=some (.lst (r0.reverse.map V.int++[V.int c0])):=aC;have gf6:aJ G1 lc (.lst (r0.reverse.map V.int++[V.int c0])) lf=_:=(aH nfc).trans gf1;have h6:=TS.lst (ys:=r0.reverse.map V.int++[V.int c0]) gc1 _ _ hrs.1;have tF6:=tF1.mono fun _ _ z=>jV.ts (TS.lst (ys:=r0.reverse.map V.int++[V.int c0]) gc1) z
     generalize aJ G1 lc (.lst (r0.reverse.map V.int++[V.int c0]))=G6 at s6 g6 gf6 h6 tF6 ⊢;refine ⟨_,rfl,lc,_,_,rfl,rfl,bI.of g6,_,rfl,p,_,_,.int m,rfl,rfl,aQ.of h6,rfl,_,rfl,_,_,rfl,rfl,.inl ⟨by lia,by lia⟩,_,_,rfl,rfl,lc,_,_,rfl,rfl,g6,?_⟩;refine (hN _ _ ⟨fz,F,(c0+m * i0) :: r0,_,_,_,_,_,rfl,bF s6 hlc0,(aH nfc).trans gf6,tF6.mono fun _ _ z=>jV.ts (TS.lst g6) z,?_,e2⟩);rw [aC,dm,bg];rfl
   |when p pa pb t a b =>
    obtain rfl:p=P:=hP;refine aR (fun z=>wWT (ag z)) ?_;refine ⟨_,rfl,rfl,_,rfl,?_⟩;refine bD (af rfl) ?_
    match st,e1,gc1,sl,e2 with
    |o0 :: i0 :: c0 :: r0,e1,gc1,sl,e2 =>
    have e1:some (F++(if i0=o0 then [] else [((n:Int),2)]),(c0+i0) :: r0)=some (F',st'):=e1;injection e1 with e1
    injection e1 with q1 q2
    subst q1 q2;have er:(o0 :: i0 :: c0 :: r0).reverse.map V.int=((r0.reverse.map V.int++[V.int c0])++[V.int i0])++[V.int o0]:=by simp
    rw [er] at gc1;refine ⟨_,rfl,.inl ⟨rfl,_,bI.of gc1⟩,lc,_,.int o0,rfl,rfl,gc1,by simp,?_⟩;rw [gx];have s6:=bF (ys:=r0.reverse.map V.int++[V.int c0]++[V.int i0]) s5 hlc0;have g6:aJ G1 lc (.lst (r0.reverse.map V.int++[V.int c0]++[V.int i0])) lc=some (.lst (r0.reverse.map V.int++[V.int c0]++[V.int i0])):=aC;have gf6:aJ G1 lc (.lst (r0.reverse.map V.int++[V.int c0]++[V.int i0])) lf=_:=(aH nfc).trans gf1;have tF6:=tF1.mono fun _ _ z=>jV.ts (TS.lst (ys:=r0.reverse.map V.int++[V.int c0]++[V.int i0]) gc1) z
    generalize aJ G1 lc (.lst (r0.reverse.map V.int++[V.int c0]++[V.int i0]))=G6 at s6 g6 gf6 tF6 ⊢;refine ⟨_,rfl,.inl ⟨rfl,_,bI.of g6⟩,lc,_,.int i0,rfl,rfl,g6,by simp,?_⟩;rw [gx];have s7:=bF (ys:=r0.reverse.map V.int++[V.int c0]) s6 hlc0;have g7:aJ G6 lc (.lst (r0.reverse.map V.int++[V.int c0])) lc=some (.lst (r0.reverse.map V.int++[V.int c0])):=aC;have gf7:aJ G6 lc (.lst (r0.reverse.map V.int++[V.int c0])) lf=_:=(aH nfc).trans gf6;have tF7:=tF6.mono fun _ _ z=>jV.ts (TS.lst (ys:=r0.reverse.map V.int++[V.int c0]) g6) z
    generalize aJ G6 lc (.lst (r0.reverse.map V.int++[V.int c0]))=G7 at s7 g7 gf7 tF7 ⊢;refine ⟨_,rfl,lc,_,_,rfl,rfl,bI.of g7,_,rfl,_,_,rfl,rfl,lc,_,_,rfl,rfl,g7,?_⟩;have g8:aJ G7 lc (.lst (r0.reverse.map V.int++[V.int (c0+i0)])) lc=some (.lst (((c0+i0) :: r0).reverse.map V.int)):=by rw [aC,dm,bg];rfl
    have s8:=bF (ys:=r0.reverse.map V.int++[V.int (c0+i0)]) s7 hlc0;have gf8:aJ G7 lc (.lst (r0.reverse.map V.int++[V.int (c0+i0)])) lf=_:=(aH nfc).trans gf7;have tF8:=tF7.mono fun _ _ z=>jV.ts (TS.lst (ys:=r0.reverse.map V.int++[V.int (c0+i0)]) g7) z
    generalize aJ G7 lc (.lst (r0.reverse.map V.int++[V.int (c0+i0)]))=G8 at s8 g8 gf8 tF8 ⊢;refine ⟨_,rfl,_,rfl,rfl,_,rfl,?_⟩
    by_cases bd:i0=o0
    ·refine aR (by simp [bd]) ?_;rw [bc bd,gj] at e2;exact (hN _ _ ⟨fz,F,_,_,_,_,_,_,rfl,s8,gf8,tF8,g8,e2⟩)
    ·refine bD (by simp [bd]) ?_;rw [ar bd] at e2;refine ⟨_,rfl,.inl ⟨rfl,_,bI.of gf8⟩,_,rfl,by show 3<=sizeLine;decide,fun tt htt=>?_⟩;have s9:=aA htt (.tup [.int n,.int 2,.str "tells"]);have e9:jV (aJ G8 tt (.tup [.int n,.int 2,.str "tells"])) (.ref tt) ((n:Int),2):=⟨tt,rfl,by rw [bU3];exact aC⟩
     have s89:=s8.trans s9;have gf9:=s9 _ _ gf8;have g9:=s9 _ _ g8;have tF9:=tF8.mono fun _ _ z=>jV.ts (.of s9) z
     generalize aJ G8 tt (.tup [.int n,.int 2,.str "tells"])=G9 at s9 e9 s89 gf9 g9 tF9 ⊢;refine ⟨lf,_,_,rfl,rfl,gf9,cE (by lia),hN _ _ ⟨fz++[.ref tt],_,_,_,_,_,_,_,rfl,bF s89 hlf,aC,?_,(aH nfc.symm).trans g9,e2⟩⟩;exact eL.append (tF9.mono fun _ _ z=>jV.ts (TS.lst gf9) z) ⟨e9.ts (TS.lst gf9),trivial⟩
   |thr p w x vs am=>cases e1
   |lt p x t=>cases e1
   |tell p t=>cases e1
  ·rw [ar c3] at e1
   cases e1
   refine aR (fun z=>c3 (by have z:=ag z;injection z)) ?_;refine aR (by decide) ?_;refine ⟨_,rfl,rfl,_,rfl,?_⟩;refine aR (fun z=>c3 (by have z:=ag z;injection z)) ?_;exact (hN _ _ ⟨_,_,_,_,_,_,_,_,rfl,s5,gf1,tF1,gc1,e2⟩)
 ·rintro σ G ⟨fz,F,st,v3,v4,v5,v6,v7,rfl,s3,gf,tF,gc,hrun⟩;rw [zl,ci,full] at hrun
  cases hrun
  exact ⟨_,rfl,k lf fz G s3 hlf gf tF⟩
theorem bI6 (n:Nat) (C_Nin:Cl P w K mg base (n+1) (aA7 n) "_law_names_in") (m_int:mg "int"=none):gN P w K mg base "_law_names_in" "_law_names_in" bN5 (n+1+1) ["_law_term_here"] (aA7 (n+1)):=by
 refine iV ["_law_term_here"] fun H Q nd hr h=>?_
 obtain ⟨t,rfl,ht,h7,hn,k⟩:=h;refine ⟨_,(aE (bE (dM bP (bV aI (pv 0) aD) aG) (aF (aU (aM fR (bW C_Nin hr (aN (bV aI (pv 0) aD))) (bW C_Nin hr (aN (bV aI (pv 0) aD)))))) aO)
  (aF (aU (aM bJ5 (bS (aN (bV aI (pv 0) aD))) (xD kY m_int jb (aN (zU bP (bV aI (pv 0) aD) aG))))))),?_⟩
 refine ⟨_,rfl,t.p,_,_,.str t.w,rfl,rfl,aQ.of ht.at,fL,rfl,_,rfl,?_⟩;generalize hP:t.p=P
 cases t with
 |op p s a b =>
  obtain rfl:p=P:=hP;refine bD (af rfl) ?_;have a1:=a.deep_pos;have an:=a.names_len;have bn:=b.names_len;simp only [Tm.size,Tm.deep] at h7 hn
  cases n with
  |zero=>exact absurd hn (by lia)
  |succ n =>
  refine ⟨_,rfl,p,_,_,.ref a.p,rfl,rfl,aQ.of ht.1,rfl,a,rfl,ht.2.1,by lia,by lia,fun r1 H1 s1 h1=>?_⟩;refine ⟨_,rfl,p,_,_,.ref b.p,rfl,rfl,aQ.of (s1 _ _ ht.1),rfl,b,rfl,ht.2.2.ts (.of s1),by (exact oqD),by lia,fun r2 H2 s2 h2=>?_⟩;refine ⟨r1,r2,_,_,rfl,rfl,s2 _ _ h1,h2,bu (cE (by rw [aa,aa];lia)),fun l hl=>k l _ (s1.trans (s2.trans (aA hl _))) ?_⟩;rw [aC, <- bg];rfl
 |nam p x =>
  obtain rfl:p=P:=hP;refine aR (fun z=>bG2 (ag z)) ?_;refine ⟨_,rfl,p,_,_,.str x,rfl,rfl,aQ.of ht,rfl,eQ,fun l hl=>?_⟩;refine ⟨_,rfl,p,_,_,.str "name",rfl,rfl,aQ.of (aA hl _ _ _ ht),rfl,rfl,.inr ⟨_,rfl,l,_,_,rfl,rfl,aC,by rw [bc (af rfl)];decide,by rw [bc (af rfl)];decide,by rw [bc (af rfl)];show 1<=sizeLine;decide,fun l2 hl2=>?_⟩⟩;refine k l2 _ ((aA hl _).trans (aA hl2 _)) ?_;rw [bc (af rfl)];exact aC
 |num p m =>
  obtain rfl:p=P:=hP;refine aR (fun z=>bI9 (ag z)) ?_;refine ⟨_,rfl,p,_,_,.int m,rfl,rfl,aQ.of ht,rfl,eQ,fun l hl=>?_⟩;have ne:¬ (decide (V.str "num"=V.str "name")=true):=fun z=>wMN (ag z)
  refine ⟨_,rfl,p,_,_,.str "num",rfl,rfl,aQ.of (aA hl _ _ _ ht),rfl,rfl,.inr ⟨_,rfl,l,_,_,rfl,rfl,aC,by rw [ar ne];decide,by rw [ar ne];decide,by rw [ar ne];exact av _,fun l2 hl2=>?_⟩⟩;refine k l2 _ ((aA hl _).trans (aA hl2 _)) ?_;rw [ar ne];exact aC
theorem bA3 (n:Nat) (C_LTs:Cl P w K mg base (n+1) (aB2 n) "_law_tells") (m_sum:mg "sum"=none):gN P w K mg base "_law_tells" "_law_tells" bR0 (n+1+1) ["_law_rows"] (aB2 (n+1)):=by
 refine iV ["_law_rows","_law_found","_law_row"] fun H Q nd hr h=>?_
 obtain ⟨p,rs,rfl,hp,hR,hT,hc,hd,k⟩:=h;refine ⟨_,(eY 1 nd (bS cF)
  (aE (pfr (mC (pv 0)) (eO 2 nd)
  (aE (bE (dM bP (bV aI (pv 2) aD) aG) (aF (bR (dG aj bo bq bM (pv 1) (aN aD)))) aO)
  (aE (bE (dM bP (bV aI (pv 2) aD) aG) (aF (bR (dG aj bo bq bM (pv 1) (aN (bW C_LTs hr (aN (bV aI (pv 2) aD))))))) aO)
  (aF (bE (dM bP (bV aI (pv 2) aD) aG) (aF (bR (dG aj bo bq bM (pv 1) (aN (aM fP (bV aI (pv 2) aD) (bW C_LTs hr (aN (bV aI (pv 2) aD)))))))) aO)))))
  (aF (aU (iK aJ3 m_sum PyProof.Rows.boot_sum (aN (pv 1))))))),?_⟩
 have rl:=eI rs;refine ⟨av _,fun lf hlf=>?_⟩;obtain ⟨H1,e0,s1,h1⟩:=hV hlf (.lst []);rw [e0];clear e0;refine ⟨_,rfl,p,rfl,⟨_,aQ.of (s1 _ _ hp)⟩,vJ (K:=K) (a:=p) (xs:=bG rs) (fun i σ G=>∃ (xs:List Int) (v2:Option V),σ=[some (.ref p),some (.ref lf),v2]/\bB H G/\G lf=some (.lst (xs.map V.int))/\xs.sum=cW (rs.take i)/\xs.length<=i)
  ⟨[],_,rfl,s1,h1,rfl,ai _⟩ (by rintro i σ G _ ⟨_,_,_,e,_⟩;exact aQ.of (e _ _ hp)) ?_ ?_⟩
 ·rintro D' i v σ G hv ⟨xs,v2,rfl,s2,g2,es,ls⟩;obtain ⟨r,rfl,hr0⟩:=iM hv;have mr:=ap hr0;have hi:=(az.mp hr0).1;have tr:=hT.mem mr;have dr:=fW mr;have cr:=fQ mr;have et:=aP6 hr0;have hrr:=cJ.ts (.of s2) r (hR.mem r mr);refine ⟨_,rfl,r.p,_,_,.str r.w,rfl,rfl,aQ.of hrr.at,fL,rfl,_,rfl,?_⟩;generalize hP:r.p=P
  cases r with
  |tell q t =>
   obtain rfl:q=P:=hP;refine bD (af rfl) ?_;refine ⟨_,rfl,.inl ⟨rfl,_,bI.of g2⟩,lf,_,_,rfl,rfl,g2,cE (by rw [aa];lia),?_⟩;have h3:=TS.lst (ys:=xs.map V.int++[.int 1]) g2 _ _ hrr.1;refine ⟨_,rfl,q,_,_,.str "tell",rfl,rfl,aQ.of h3,rfl,rfl,_,rfl,aR (fun z=>wEW (ag z)) ?_⟩;refine ⟨_,rfl,q,_,_,.str "tell",rfl,rfl,aQ.of h3,rfl,rfl,_,rfl,aR (fun z=>wET (ag z)) ?_⟩;exact ⟨xs++[1],_,rfl,bF s2 hlf,by rw [aC,bg];rfl,by rw [pN,es,et];rfl,by rw [ak];show xs.length+1<=_;lia⟩
  |when q pa pb t a b =>
   obtain rfl:q=P:=hP;obtain ⟨h3,_,_,h4,_,ra,_⟩:=id hrr;simp only [Rw.dp] at dr;simp only [Rw.cnt] at cr
   cases n with
   |zero=>exact absurd hd (by lia)
   |succ n =>
   refine aR (fun z=>wWE (ag z)) ?_;refine ⟨_,rfl,q,_,_,.str "when",rfl,rfl,aQ.of h3,rfl,rfl,_,rfl,bD (af rfl) ?_⟩;refine ⟨_,rfl,.inl ⟨rfl,_,bI.of g2⟩,_,rfl,q,_,_,.ref pa,rfl,rfl,aQ.of h3,rfl,pa,a,rfl,h4,ra,tr.1,by lia,by lia,fun H4 s4=>?_⟩;have g4:=s4 _ _ g2;refine ⟨lf,_,_,rfl,rfl,g4,cE (by rw [aa];lia),?_⟩;have h5:=TS.lst (ys:=xs.map V.int++[.int (cW a)]) g4 _ _ (s4 _ _ h3);refine ⟨_,rfl,q,_,_,.str "when",rfl,rfl,aQ.of h5,rfl,rfl,_,rfl,aR (fun z=>wWT (ag z)) ?_⟩;exact ⟨xs++[cW a],_,rfl,bF (s2.trans s4) hlf,by rw [aC,bg];rfl,by rw [pN,es,et];simp only [kU],by rw [ak];show xs.length+1<=_;lia⟩
  |times q pb m b =>
   obtain rfl:q=P:=hP;obtain ⟨h3,h4,ra⟩:=id hrr;simp only [Rw.dp] at dr;simp only [Rw.cnt] at cr;obtain ⟨m0,m9,tb⟩:=tr
   cases n with
   |zero=>exact absurd hd (by lia)
   |succ n =>
   refine aR (fun z=>wTE (ag z)) ?_;refine ⟨_,rfl,q,_,_,.str "times",rfl,rfl,aQ.of h3,rfl,rfl,_,rfl,aR (fun z=>wTW (ag z)) ?_⟩;refine ⟨_,rfl,q,_,_,.str "times",rfl,rfl,aQ.of h3,rfl,rfl,_,rfl,bD (af rfl) ?_⟩;refine ⟨_,rfl,.inl ⟨rfl,_,bI.of g2⟩,_,rfl,q,_,_,.int m,rfl,rfl,aQ.of h3,rfl,_,rfl,q,_,_,.ref pb,rfl,rfl,aQ.of h3,rfl,pb,b,rfl,h4,ra,tb,by lia,by lia,fun H4 s4=>?_⟩;have g4:=s4 _ _ g2;refine ⟨_,_,rfl,rfl,.inl ⟨by (exact oqe),by (exact oqc)⟩,lf,_,_,rfl,rfl,g4,cE (by rw [aa];lia),?_⟩;exact ⟨xs++[m * cW b],_,rfl,bF (s2.trans s4) hlf,by rw [aC,bg];rfl,by rw [pN,es,et];simp only [kU],by rw [ak];show xs.length+1<=_;lia⟩
  |thr q w x vs am =>
   obtain rfl:q=P:=hP;have hw:=hrr.2.w;refine aR (fun z=>zL hw (ag z)) ?_;refine ⟨_,rfl,q,_,_,.str w,rfl,rfl,aQ.of hrr.1,fL,rfl,_,rfl,aR (fun z=>qV hw (ag z)) ?_⟩;refine ⟨_,rfl,q,_,_,.str w,rfl,rfl,aQ.of hrr.1,fL,rfl,_,rfl,aR (fun z=>xF hw (ag z)) ?_⟩;exact ⟨xs,_,rfl,s2,g2,by rw [es,et];simp only [kU,Int.add_zero],by lia⟩
  |lt q x t =>
   obtain rfl:q=P:=hP;refine aR (fun z=>wLE (ag z)) ?_;refine ⟨_,rfl,q,_,_,.str "let",rfl,rfl,aQ.of hrr.1,rfl,rfl,_,rfl,aR (fun z=>wLW (ag z)) ?_⟩;refine ⟨_,rfl,q,_,_,.str "let",rfl,rfl,aQ.of hrr.1,rfl,rfl,_,rfl,aR (fun z=>wLT (ag z)) ?_⟩;exact ⟨xs,_,rfl,s2,g2,by rw [es,et];simp only [kU,Int.add_zero],by lia⟩
 ·rintro σ G ⟨xs,v2,rfl,s2,g2,es,_⟩;rw [bU,ci] at es;refine ⟨_,rfl,lf,xs,rfl,bI.of g2,?_⟩;rw [es];exact k G s2
theorem bF3 (C_Draw:Cl P w K mg base 1 spDraw "_law_draw") (m_range:mg "range"=none) (m_len:mg "len"=none):gN P w K mg base "_law_names" "_law_names" bK8 2 ["_law_deal_here","_law_many"] spNames:=by
 refine iV ["_law_deal_here","_law_many","_law_letters","_law_core","_law_at","_law_turn","_law_found","_law_k","_law_word"] fun H Q nd hr h=>?_
 obtain ⟨d,l,m,rfl,D,m0,m9,k⟩:=h;refine ⟨_,(@aE _ _ _ _ _ (kZ 2 nd aG)
  (@aE _ _ _ _ _ (kZ 3 nd (dG PySem.F.plainAttrs_str PySem.F.slot_str_join PySem.F.type_str_join aQ7 aG (aN (cQ ["_law_k","_law_letters","_law_deal_here"] [none,some 2,some 0] (eZ (by rfl) m_range (aN (bW C_Draw hr (aB (pv 0) (aN aD))))) (fun _ _ _ _=>(eO 0)) (fun _ _ _ _=>eK) (fun _ _ _ _=>(bV yN (pv 1) (bW C_Draw hr (aB (pv 2) (aN aD)))))))))
  (@aE _ _ _ _ _ (kZ 4 nd (bW C_Draw hr (aB (pv 0) (aN (aM bT (iK uF m_len bz (aN (pv 3))) aD)))))
  (@aE _ _ _ _ _ (kZ 5 nd (bW C_Draw hr (aB (pv 0) (aN aD))))
  (@aE _ _ _ _ _ (kZ 6 nd (bS cF))
  (@aE _ _ _ _ _ (pfr (eZ (by rfl) m_range (aN (pv 1))) (eO 7 nd)
  (@aE _ _ _ _ _ (kZ 8 nd (aM jM (aM jM (bH xS (pv 3) bQ (bO (pv 4))) (bV yN (pv 2) (aM jN (aM bT (pv 5) (aM fP aD (pv 7))) aD))) (bH xS (pv 3) (bO (pv 4)) bQ)))
  (@aE _ _ _ _ _ (fK (bE (dM cU (pv 8) (@aL _ _ _ _ _ (@aB _ _ _ _ _ aG (@aB _ _ _ _ _ aG (@aB _ _ _ _ _ aG (@aB _ _ _ _ _ aG (@aB _ _ _ _ _ aG (@aB _ _ _ _ _ aG (@aB _ _ _ _ _ aG (@aB _ _ _ _ _ aG (@aB _ _ _ _ _ aG (@aB _ _ _ _ _ aG (@aB _ _ _ _ _ aG (@aB _ _ _ _ _ aG cF rfl) rfl) rfl) rfl) rfl) rfl) rfl) rfl) rfl) rfl) rfl) rfl))) (aF (kZ 8 nd (aM jM (pv 8) aG))) aO))
  (@aF _ _ _ (bR (dG aj bo bq bM (pv 6) (aN (pv 8))))))))
  (@aF _ _ _ (aU (pv 6))))))))),?_⟩
 refine ⟨rfl,_,rfl,d,l,7,rfl,D,by decide,by decide,fun n0 H1 n1 n2 D1 o1=>⟨n0,rfl,by (exact oqb),by lia,?_⟩⟩;refine jF (fun i ys σ G=>cS G d l/\dZ d l H G/\(∃ v,σ=[v,some (.str "abcdefghijklmnopqrstuvwxyz"),some (.ref d)])/\∃ zs:List Str,ys=zs.map V.str/\zs.length=i/\∀ z∈zs,z.length=1) (bL (by lia)) ⟨D1,o1,⟨_,rfl⟩,[],rfl,rfl,fun _ z=>nomatch z⟩
  (by rintro i ys σ G ⟨_,_,_,zs,e,e2,_⟩;rw [e,aa];lia) ?_ ?_
 ·rintro i ys σ G hi ⟨D2,o2,⟨v,rfl⟩,zs,rfl,hl,h1⟩;refine ⟨_,rfl,_,rfl,d,l,26,rfl,D2,by decide,by decide,fun r H3 r0 r1 D3 o3=>?_⟩;obtain ⟨c,hc⟩:=bC6 (z:="abcdefghijklmnopqrstuvwxyz") r0 r1;refine ⟨_,r,c,rfl,rfl,by decide,hc,D3,o2.trans o3,⟨_,rfl⟩,zs++[⟨#[c]⟩],by rw [bg];rfl,by rw [ak,hl];rfl,fun z hz=>?_⟩;rcases du.mp hz with q | q
  ·exact h1 z q
  ·have e:z=⟨#[c]⟩:=by simpa using q
   rw [e];rfl
 rintro ys σ H2 ⟨D2,o2,_,zs,rfl,hl,h1⟩ p hp;have hsm:=xA h1;refine ⟨_,p,zs,rfl,rfl,bI.of aC,by rw [hsm];show zs.length+zs.length * 0<=_;lia,?_⟩;have hj:=aG4 "" zs;rw [hsm] at hj;have e0:("": Str).length=0:=rfl;rw [e0] at hj;have D3:=D2.same (aA hp (.lst (zs.map V.str)));have o3:=o2.trans (dZ.of (d:=d) (l:=l) (aA hp (.lst (zs.map V.str))));generalize aJ H2 p (.lst (zs.map V.str))=H3 at D3 o3 ⊢;generalize Txt.join "" zs=cr at hj ⊢;have c6:cr.length<=6:=by lia
 have cz:cr.length<=sizeLine:=bu (bL (by (exact oqf)));refine ⟨_,rfl,_,rfl,cr,rfl,cz,_,_,rfl,rfl,d,l,_,rfl,D3,by lia,by lia,fun at' H4 a0 a1 D4 o4=>?_⟩;refine ⟨_,rfl,d,l,26,rfl,D4,by decide,by decide,fun tn' H5 b0 b1 D5 o5=>?_⟩;have oA:=o3.trans (o4.trans o5);refine ⟨av _,fun lf hlf=>?_⟩;have nf:=lL D5 oA hlf;have L6:jW (aJ H5 lf (.lst [])) d l lf []:=jW.new D5 hlf;have o6:=oA.trans (dZ.of (d:=d) (l:=l) (aA hlf (.lst [])));generalize aJ H5 lf (.lst [])=H6 at L6 o6 ⊢;refine ⟨_,rfl,m,rfl,by (exact oqb),by (exact oqc),tO (n:=m.toNat) (fun i σ G=>∃ (ws:List Str) (v7 v8:Option V),σ=[some (.ref d),some (.int m),some (.str "abcdefghijklmnopqrstuvwxyz"),some (.str cr),some (.int at'),some (.int tn'),some (.ref lf),v7,v8]/\jW G d l lf (ws.map V.str)/\dZ d l H G/\ws.length=i/\bC2 (Txt.slice cr none (some at')) (Txt.slice cr (some at') none) tn' i ws)
  ⟨[],_,_,rfl,L6,o6,rfl,List.nodup_nil,fun _ z=>nomatch z⟩ ?_ ?_⟩
 ·rintro i σ G hi ⟨ws,v7,v8,rfl,L7,o7,hw,hb⟩;have hc:=aW3 tn' i;generalize hlt:aB5 tn' i=c at hc;have t1:=ma cr none (some at');have t2:=ma cr (some at') none;have q26:(0:Int) < 26:=by decide
  have z1:(Txt.slice cr none (some at')).length+(⟨#[c]⟩:Str).length<=7:=by show _+1<=7;lia
  have z2:(Txt.slice cr none (some at')++(⟨#[c]⟩:Str)).length<=7:=by rw [kr];exact z1
  refine ⟨_,rfl,_,rfl,_,rfl,cr,rfl,cz,_,rfl,_,rfl,_,rfl,_,_,rfl,rfl,.inl ⟨by decide,by decide⟩,_,_,rfl,rfl,_,_,rfl,rfl,q26,_,_,c,rfl,rfl,by decide,hc,_,_,rfl,rfl,cj z1 (by decide),_,rfl,_,rfl,_,rfl,cr,rfl,cz,_,_,rfl,rfl,bu (bL (by lia)),?_⟩;have z3:(Txt.slice cr none (some at')++(⟨#[c]⟩:Str)++Txt.slice cr (some at') none).length<=13:=by rw [kr];lia
  have ew:Txt.slice cr none (some at')++(⟨#[c]⟩:Str)++Txt.slice cr (some at') none=wdK (Txt.slice cr none (some at')) (Txt.slice cr (some at') none) tn' i:=by rw [<- hlt];rfl
  generalize Txt.slice cr none (some at')++(⟨#[c]⟩:Str)++Txt.slice cr (some at') none=wd at z3 ew ⊢;refine ⟨fun σ' G'=>∃ (w':Str) (v7:Option V),σ'=[some (.ref d),some (.int m),some (.str "abcdefghijklmnopqrstuvwxyz"),some (.str cr),some (.int at'),some (.int tn'),some (.ref lf),v7,some (.str w')]/\jW G' d l lf (ws.map V.str)/\dZ d l H G'/\(w'=wd\/w'=wd++"q"),?_,?_⟩
  ·refine ⟨_,rfl,by show 12<=sizeLine;decide,fun t ht=>?_⟩;have L8:=L7.same (aA ht (.tup [.str "kinds",.str "ladder",.str "flat",.str "choose",.str "first",.str "let",.str "tell",.str "when",.str "else",.str "times",.str "end",.str "of"]));have o8:=o7.trans (dZ.of (d:=d) (l:=l) (aA ht (.tup [.str "kinds",.str "ladder",.str "flat",.str "choose",.str "first",.str "let",.str "tell",.str "when",.str "else",.str "times",.str "end",.str "of"])));have h8:aJ G t (.tup [.str "kinds",.str "ladder",.str "flat",.str "choose",.str "first",.str "let",.str "tell",.str "when",.str "else",.str "times",.str "end",.str "of"]) t=some (.tup (aX4.map V.str)):=aC;generalize aJ G t (.tup [.str "kinds",.str "ladder",.str "flat",.str "choose",.str "first",.str "let",.str "tell",.str "when",.str "else",.str "times",.str "end",.str "of"])=H8 at L8 o8 h8 ⊢;refine ⟨t,_,rfl,.inr (aQ.of h8),rfl,nX aX4,_,rfl,rN (fun _=>?_) (fun _=>⟨wd,_,rfl,L8,o8,.inl rfl⟩)⟩
   have e1:("q": Str).length=1:=by decide
   refine ⟨_,rfl,_,_,rfl,rfl,by rw [e1];exact bu (bL (by lia)),_,_,rfl,L8,o8,.inr rfl⟩
  ·rintro σ' G' ⟨w',v7,rfl,L8,o8,hw'⟩;refine ⟨_,rfl,.inl ⟨rfl,_,bI.of L8.lst⟩,_,rfl,lf,_,_,rfl,rfl,L8.lst,bL (by rw [aa];lia),ws++[w'],_,_,rfl,?_,uN o8 nf,by rw [ak,hw];rfl,aF2 hb (by lia) (by rw [ew] at hw';exact hw')⟩;rw [bg];exact L8.app _
 ·rintro σ G ⟨ws,v7,v8,rfl,L7,o7,hw,hb⟩;exact ⟨_,rfl,k lf ws G L7.deal o7 nf L7.lst (by lia) hb.1⟩
theorem aZ1 (C_Draw:Cl P w K mg base 1 spDraw "_law_draw") (m_tuple:mg "tuple"=none) (m_range:mg "range"=none):gN P w K mg base "_law_sum" "_law_sum" bO4 2 ["_law_deal_here","_law_many"] spSumS:=by
 refine iV ["_law_deal_here","_law_many"] fun H Q nd hr h=>?_
 obtain ⟨d,l,m,rfl,D,m0,m3,k⟩:=h;refine ⟨_,(aF (aU (xD cX m_tuple ee (aN (cQ ["_law_k","_law_deal_here"] [none,some 0] (eZ (by rfl) m_range (aN (pv 1))) (fun _ _ _ _=>(eO 0)) (fun _ _ _ _=>eK) (fun _ _ _ _=>(bW C_Draw hr (aB (pv 1) (aN (bV (bW2 K) (bS (aB aD (aB aD (aN aD)))) (bW C_Draw hr (aB (pv 1) (aN aD))))))))))))),?_⟩;refine ⟨_,rfl,m,rfl,by (exact oqb),by (exact oqc),jF (n:=m.toNat) (fun i ys σ G=>cS G d l/\dZ d l H G/\(∃ v,σ=[v,some (.ref d)])/\ys.length=i) (bL (by lia)) ⟨D,dZ.refl _,⟨_,rfl⟩,rfl⟩ (by rintro i ys σ G ⟨_,_,_,e⟩;lia) ?_ ?_⟩
 ·rintro i ys σ G hi ⟨D1,o1,⟨v,rfl⟩,hl⟩;refine ⟨_,rfl,by show 3<=sizeLine;decide,fun l0 hl0=>?_⟩;have nl:=(bZ D1 hl0).2;obtain ⟨H2,e0,s2,h2⟩:=hV hl0 (.lst [.int 2,.int 2,.int 4]);rw [e0];clear e0;refine ⟨_,rfl,d,l,3,rfl,D1.same s2,by decide,by decide,fun x H3 x0 x1 D3 o3=>?_⟩;obtain ⟨w,hw,hc⟩:=vH (x:=2) (y:=2) (z:=4) x0 x1;refine ⟨l0,_,_,.int w,rfl,rfl,bI.of (aV (D1.same s2) h2 nl o3),hw,d,l,w,rfl,D3,by lia,by lia,fun y H4 y0 y1 D4 o4=>⟨D4,o1.trans ((dZ.of s2).trans (o3.trans o4)),⟨_,rfl⟩,?_⟩⟩;rw [ak,hl];rfl
 ·rintro ys σ G ⟨D1,o1,_,hl⟩ lx hlx;exact ⟨lx,ys,rfl,.inl ⟨bI.of aC,fun t ht=>k t ys _ ((D1.same (aA hlx _)).same (aA ht _)) (o1.trans (dZ.of ((aA hlx _).trans (aA ht _)))) aC (by lia)⟩⟩
theorem bG9 (C_Draw:Cl P w K mg base 1 spDraw "_law_draw") (m_len:mg "len"=none):gN P w K mg base "_law_steep" "_law_steep" bS6 2 ["_law_deal_here","_law_most"] spStp:=by
 refine iV ["_law_deal_here","_law_most","_law_some"] fun H Q nd hr h=>?_
 obtain ⟨d,l,m,rfl,D,k⟩:=h;refine ⟨_,(@aE _ _ _ _ _ (@jK _ _ 2 _ _ _ _ nd rfl (ii rfl) (@bS _ _ _ _ (@qW _ _ [(1,2),(1,3),(1,4),(1,5),(2,5),(1,6),(1,7),(2,7),(3,7),(1,8),(3,8),(1,9),(2,9)] rfl)) rfl (ii rfl))
  (@aE _ _ _ _ _ (bR (dG aj bo bq bM (pv 2) (aN (aL (aB aD (aN aD))))))
  (@aE _ _ _ _ _ (fK (bE (dM bP (pv 1) aD) (@aE _ _ _ _ _ (@jK _ _ 2 _ _ _ _ nd rfl (ii rfl) (aM fR (pv 2) (@bS _ _ _ _ (@qW _ _ [(2,3),(3,4),(3,5),(4,5),(5,6),(4,7),(5,7),(6,7),(5,8),(7,8),(5,9),(7,9)] rfl))) rfl (ii rfl))
  (@aF _ _ _ (bR (dG aj bo bq bM (pv 2) (aN (aL (aB aD (aN aD)))))))) aO))
  (@aF _ _ _ (aU (bV cY (pv 2) (bW C_Draw hr (aB (pv 0) (aN (iK aW m_len bz (aN (pv 2)))))))))))),?_⟩
 refine fun vs1 H1 s1 p1=>⟨bu (bL (by rw [gF p1];decide)),fun l1 hl1=>?_⟩
 have nl:=(bZ (D.same s1) hl1).2;have n1:=s1.free hl1;have s2:=s1.trans (aA hl1 (.lst vs1));have h2:aJ H1 l1 (.lst vs1) l1=some (.lst vs1):=aC;replace p1:=fS (.of (aA hl1 (.lst vs1))) p1;generalize aJ H1 l1 (.lst vs1)=H2 at s2 h2 p1 ⊢;refine ⟨_,rfl,.inl ⟨rfl,_,bI.of h2⟩,bJ,fun t ht=>?_⟩;have s3:=s2.trans (aA ht (.tup [.int 4,.int 9]));have h3:=(aA ht (.tup [.int 4,.int 9])) _ _ h2;have pt:fB (aJ H2 t (.tup [.int 4,.int 9])) [.ref t] [(4,9)]:=⟨⟨t,rfl,aC⟩,trivial⟩
 replace p1:=lQ (fS (.of (aA ht (.tup [.int 4,.int 9]))) p1) pt;clear pt;generalize aJ H2 t (.tup [.int 4,.int 9])=H3 at s3 h3 p1 ⊢;refine ⟨l1,_,_,rfl,rfl,h3,bL (by have:=gF p1;rw [ak] at this;simp only [List.length_append,List.length_cons,List.length_nil] at this;lia),?_⟩;have s4:=bF (ys:=vs1++[.ref t]) s3 n1;have h4:aJ H3 l1 (.lst (vs1++[.ref t])) l1=some (.lst (vs1++[.ref t])):=aC;replace p1:=fS (TS.lst (ys:=vs1++[.ref t]) h3) p1;generalize aJ H3 l1 (.lst (vs1++[.ref t]))=H4 at s4 h4 p1 ⊢;refine ⟨fun σ' G=>∃ (lx:Addr) (vs:List V) (ps:List (Int×Int)),σ'=[some (.ref d),some (.int m),some (.ref lx)]/\bB H G/\lx≠l/\G lx=some (.lst vs)/\fB G vs ps/\1<=ps.length/\ps.length<=30/\(m≠1->∀ p∈ps,2 * p.1<=p.2)/\(∀ p∈ps,0<=p.1/\p.1<=100),?_,?_⟩
 ·refine ⟨_,rfl,rfl,_,rfl,?_⟩
  by_cases c:m=1
  ·refine bD (by rw [c];exact af rfl) ?_;refine ⟨_,rfl,fun vs5 H5 s5 p5=>⟨bu (bL (by rw [gF p5];decide)),fun l5 hl5=>?_⟩⟩;have s6:=s5.trans (aA hl5 (.lst vs5));have h6:aJ H5 l5 (.lst vs5) l5=some (.lst vs5):=aC;replace p5:=fS (.of (aA hl5 (.lst vs5))) p5;generalize aJ H5 l5 (.lst vs5)=H6 at s6 h6 p5 ⊢;have e1:=gF p1;have e5:=gF p5;simp only [List.length_cons,List.length_nil,List.length_append] at e1 e5;refine ⟨l1,l5,_,_,rfl,rfl,s6 _ _ h4,h6,bu (bL (by rw [ak,cu,jo];lia)),fun l7 hl7=>?_⟩;have nl7:=(bZ ((D.same s4).same s6) hl7).2;have n7:=(s4.trans s6).free hl7;have s7:=s6.trans (aA hl7 (.lst (vs1++[.ref t]++vs5)));have h7:aJ H6 l7 (.lst (vs1++[.ref t]++vs5)) l7=some (.lst (vs1++[.ref t]++vs5)):=aC;have p7:=lQ (fS (.of s7) p1) (fS (.of (aA hl7 (.lst (vs1++[.ref t]++vs5)))) p5);generalize aJ H6 l7 (.lst (vs1++[.ref t]++vs5))=H7 at s7 h7 p7 ⊢
   refine ⟨_,rfl,.inl ⟨rfl,_,bI.of h7⟩,bJ,fun t8 ht8=>?_⟩;have s8:=s7.trans (aA ht8 (.tup [.int 8,.int 9]));have h8:=(aA ht8 (.tup [.int 8,.int 9])) _ _ h7;have pt:fB (aJ H7 t8 (.tup [.int 8,.int 9])) [.ref t8] [(8,9)]:=⟨⟨t8,rfl,aC⟩,trivial⟩
   have p8:=lQ (fS (.of (aA ht8 (.tup [.int 8,.int 9]))) p7) pt;clear pt;generalize aJ H7 t8 (.tup [.int 8,.int 9])=H8 at s8 h8 p8 ⊢;refine ⟨l7,_,_,rfl,rfl,h8,bL (by simp only [List.length_append,List.length_cons,List.length_nil];lia),?_⟩;refine ⟨l7,_,_,rfl,bF (s4.trans s8) n7,nl7,aC,fS (TS.lst h8) p8,by decide,by decide,(fun z=>absurd c z),by decide⟩
  ·refine aR (fun z=>c (by have z:=ag z;injection z)) ?_;exact ⟨l1,_,_,rfl,s4,nl,h4,p1,by decide,by decide,(fun _=>by decide),by decide⟩
 ·rintro σ' G ⟨lx,vs,ps,rfl,s5,nx,h5,p5,q1,q2,q3,q4⟩;have e5:=gF p5;refine ⟨_,rfl,_,rfl,_,rfl,lx,_,rfl,.inl (bI.of h5),d,l,_,rfl,D.same s5,by lia,by lia,fun x H6 x0 x1 D6 o6=>?_⟩;obtain ⟨v,hv,ha⟩:=eV x0 x1;obtain ⟨pp,mp,a,rfl,hA⟩:=vQ p5 hv;exact ⟨lx,_,_,.ref a,rfl,rfl,bI.of (aV (D.same s5) h5 nx o6),ha,k a pp.1 pp.2 H6 D6 ((dZ.of s5).trans o6) (TS.out (D.same s5) o6 _ _ hA) (q4 pp mp).1 (q4 pp mp).2 fun z=>q3 z pp mp⟩
theorem aZ9 (n:Nat) (C_Trm:Cl P w K mg base (n+1) (aE3 n) "_law_term") (C_Draw:Cl P w K mg base 1 spDraw "_law_draw") (m_len:mg "len"=none):gN P w K mg base "_law_term" "_law_term" bT1 (n+1+1) ["_law_deal_here","_law_known","_law_room","_law_deep"] (aE3 (n+1)):=by
 refine iV ["_law_deal_here","_law_known","_law_room","_law_deep","_law_part","_law_one"] fun H Q nd hr h=>?_
 obtain ⟨d,l,kn,ks,room,deep,rfl,D,hk,nk,lk,r1,r2,dp,k⟩:=h;refine ⟨_,(aE (bE (dY (PW.pt (eR (dM eW (pv 2) aD) (eR (dM eW (pv 3) aD) (eU (dM eW (bW C_Draw hr (aB (pv 0) (aN aD))) aD)))))) (eY 4 nd (aM bT aD (bW C_Draw hr (aB (pv 0) (aN (aM dP (pv 2) aD)))))
  (eY 5 nd (bW C_Trm hr (aB (pv 0) (aB (pv 1) (aB (pv 4) (aN (aM dP (pv 3) aD))))))
  (aF (aU (aL (aB aG (aB (bV yN aG (bW C_Draw hr (aB (pv 0) (aN aD)))) (aB (pv 5) (aN (bW C_Trm hr (aB (pv 0) (aB (pv 1) (aB (aM dP (aM dP (pv 2) aD) (pv 4)) (aN (aM dP (pv 3) aD))))))))))))))) aO)
  (aE (bE (dY (PW.pt (eR (dM eW (iK aW m_len bz (aN (pv 1))) aD) (eU (dM eW (bW C_Draw hr (aB (pv 0) (aN aD))) aD))))) (aF (aU (aL (aB aG (aN (bV cY (pv 1) (bW C_Draw hr (aB (pv 0) (aN (iK aW m_len bz (aN (pv 1)))))))))))) aO)
  (aF (aU (aL (aB aG (aN (bW C_Draw hr (aB (pv 0) (aN (bV cY (bS (aB aD (aB aD (aN aD)))) (bW C_Draw hr (aB (pv 0) (aN aD)))))))))))))),?_⟩
 refine ⟨fun b G=>cS G d l/\dZ d l H G/\(b=true->2 < room/\1 < deep),?_,?_⟩
 ·refine ⟨_,rfl,_,_,rfl,rfl,_,rfl,?_⟩
  by_cases c1:2 < room
  ·refine bD (af c1) ⟨_,rfl,_,_,rfl,rfl,_,rfl,?_⟩
   by_cases c2:1 < deep
   ·exact bD (af c2) ⟨_,rfl,d,l,3,rfl,D,by decide,by decide,fun x H1 x0 x1 D1 o1=>⟨_,_,rfl,rfl,_,rfl,D1,o1,fun _=>⟨c1,c2⟩⟩⟩
   ·exact aR (by simpa using c2) ⟨D,dZ.refl _,fun z=>nomatch z⟩
  ·exact aR (by simpa using c1) ⟨D,dZ.refl _,fun z=>nomatch z⟩
 rintro b G ⟨D1,o1,hb⟩;have hk1:=aV D hk nk o1
 cases b with
 |true =>
  refine bD rfl ?_;obtain ⟨c1,c2⟩:=hb rfl
  cases n with
  |zero=>exact absurd c2 (by lia)
  |succ n =>
  refine ⟨_,rfl,_,rfl,_,_,rfl,rfl,d,l,room - 2,rfl,D1,by lia,by lia,fun x H2 x0 x1 D2 o2=>⟨_,_,rfl,rfl,?_⟩⟩;have hk2:=aV D1 hk1 nk o2;refine ⟨_,rfl,_,rfl,_,rfl,_,rfl,_,_,rfl,rfl,d,l,kn,ks,1+x,deep - 1,rfl,D2,hk2,nk,lk,by lia,by lia,by lia,fun t1 H3 D3 o3 h3 ok3 nm3 sz3 dp3=>?_⟩;have hk3:=aV D2 hk2 nk o3;refine ⟨_,rfl,d,l,5,rfl,D3,by decide,by decide,fun y H4 y0 y1 D4 o4=>?_⟩;obtain ⟨c,hc,hs⟩:=aZ2 y0 y1;have hk4:=aV D3 hk3 nk o4;refine ⟨_,y,c,rfl,rfl,by decide,hc,_,rfl,_,rfl,_,rfl,_,rfl,_,_,rfl,rfl,_,rfl,_,_,rfl,rfl,_,rfl,_,_,rfl,rfl,d,l,kn,ks,room - 1 - (1+x),deep - 1,rfl,D4,hk4,nk,lk,by lia,by lia,by lia,fun t2 H5 D5 o5 h5 ok5 nm5 sz5 dp5=>⟨by show 4<=sizeLine;decide,fun p hp=>?_⟩⟩;have s6:=aA hp (.tup [.str "op",.str ⟨#[c]⟩,.ref t1.p,.ref t2.p]);have t15:=(TS.out D3 o4).trans ((TS.out D4 o5).trans (.of s6));refine k (.op p ⟨#[c]⟩ t1 t2) _ (D5.same s6) (o1.trans (o2.trans (o3.trans (o4.trans (o5.trans (.of s6)))))) ⟨aC,h3.ts t15,h5.ts (.of s6)⟩ ⟨hs,ok3,ok5⟩ (fun z hz=>?_) ?_ ?_
  ·rcases du.mp hz with q | q
   ·exact nm3 z q
   ·exact nm5 z q
  ·simp only [Tm.size];lia
  ·simp only [Tm.deep];lia
 |false =>
  refine aR (by simp) ?_;refine ⟨fun b G'=>cS G' d l/\dZ d l H G'/\(b=true->0 < ks.length),?_,?_⟩
  ·refine ⟨_,rfl,kn,_,rfl,.inl (bI.of hk1),_,_,rfl,rfl,_,rfl,?_⟩
   by_cases c:(0:Int) < ((ks.map V.str).length:Int)
   ·refine bD (af c) ⟨_,rfl,d,l,4,rfl,D1,by decide,by decide,fun x H2 x0 x1 D2 o2=>⟨_,_,rfl,rfl,_,rfl,D2,o1.trans o2,fun _=>by rw [aa] at c;lia⟩⟩
   ·exact aR (by simpa using c) ⟨D1,o1,fun z=>nomatch z⟩
  rintro b G2 ⟨D2,o2,hb2⟩;have hk2:=aV D hk nk o2
  cases b with
  |true =>
   have kp:=hb2 rfl;refine bD rfl ?_;refine ⟨_,rfl,_,rfl,_,rfl,kn,_,rfl,.inl (bI.of hk2),d,l,_,rfl,D2,by rw [aa];lia,by rw [aa];(exact oqq),fun x H3 x0 x1 D3 o3=>?_⟩;obtain ⟨v,hv,ha⟩:=eV x0 x1;obtain ⟨y,rfl,hy⟩:=eT hv;refine ⟨kn,_,_,.str y,rfl,rfl,bI.of (aV D2 hk2 nk o3),ha,bJ,fun p hp=>?_⟩;have s4:=aA hp (.tup [.str "name",.str y]);refine k (.nam p y) _ (D3.same s4) (o2.trans (o3.trans (.of s4))) aC trivial (fun z hz=>?_) (by simp only [Tm.size];(exact oqb)) (by simp only [Tm.deep];(exact oqJ));rw [dq.mp hz];exact ap hy
  |false =>
   refine aR (by simp) ?_;refine ⟨_,rfl,by show 3<=sizeLine;decide,fun l0 hl0=>?_⟩;have n0:=(bZ D2 hl0).2;obtain ⟨H3,e0,s3,h3⟩:=hV hl0 (.lst [.int 3,.int 10,.int 1000]);rw [e0];clear e0;refine ⟨_,rfl,d,l,3,rfl,D2.same s3,by decide,by decide,fun x H4 x0 x1 D4 o4=>?_⟩;obtain ⟨w,hw,hc⟩:=vH (x:=3) (y:=10) (z:=1000) x0 x1;refine ⟨l0,_,_,.int w,rfl,rfl,bI.of (aV (D2.same s3) h3 n0 o4),hw,d,l,w,rfl,D4,by lia,by lia,fun y H5 y0 y1 D5 o5=>⟨bJ,fun p hp=>?_⟩⟩;have s6:=aA hp (.tup [.str "num",.int y]);exact k (.num p y) _ (D5.same s6) (o2.trans ((dZ.of s3).trans (o4.trans (o5.trans (.of s6))))) aC ⟨y0,by lia⟩ (fun z hz=>absurd hz dj) (by simp only [Tm.size];(exact oqb)) (by simp only [Tm.deep];(exact oqJ))
theorem bG7 (C_Draw:Cl P w K mg base 1 spDraw "_law_draw") (C_Stp:Cl P w K mg base 2 spStp "_law_steep") (C_Sum:Cl P w K mg base 2 spSumS "_law_sum") (m_int:mg "int"=none) (m_tuple:mg "tuple"=none) (m_range:mg "range"=none):gN P w K mg base "_law_throw" "_law_throw" bN6 3 ["_law_deal_here","_law_many","_law_x"] spThrow:=by
 refine iV ["_law_deal_here","_law_many","_law_x","_law_form","_law_least","_law_low","_law_high","_law_sums","_law_mark"] fun H Q nd hr h=>?_
 obtain ⟨d,l,m,x,rfl,D,m0,m3,k⟩:=h;have hu:=lR hr;refine ⟨_,(eY 3 nd (bW C_Draw hr (aB (pv 0) (aN aD)))
  (eY 4 nd (xD kY m_int jb (aN (zU bP (pv 3) aD)))
  (eY 5 nd (bW C_Draw hr (aB (pv 0) (aN (aM dP aD (pv 4)))))
  (eY 6 nd (aM bT (aM bT (pv 5) (pv 4)) (bW C_Draw hr (aB (pv 0) (aN (aM dP (aM dP aD (pv 5)) (pv 4))))))
  (aE (bE (dM bP (pv 3) aD) (aF (aU (aL (aB aG (aB (pv 2) (aB (bW C_Sum hr (aB (pv 0) (aN (pv 1)))) (aB (bW C_Stp hr (aB (pv 0) (aN aD))) (aB (pv 5) (aN (pv 6)))))))))) aO)
  (aE (bE (dM bP (pv 3) aD) (aF (aU (aL (aB aG (aB (pv 2) (aB (bW C_Sum hr (aB (pv 0) (aN (pv 1)))) (aB (bW C_Draw hr (aB (pv 0) (aN aD))) (aB (pv 5) (aN (pv 6)))))))))) aO)
  (eY 7 nd (xD cX m_tuple ee (aN (cQ ["_law_k","_law_deal_here","_law_many"] [none,some 0,some 1] (eZ (by rfl) m_range (aN (aM bT aD (bW C_Draw hr (aB (pv 0) (aN aD)))))) (fun _ _ _ _=>(eO 0)) (fun _ _ _ _=>eK) (fun _ _ _ _=>(bW C_Sum hr (aB (pv 1) (aN (pv 2))))))))
  (aE (bE (dM bP (pv 3) aD) (aF (aU (aL (aB aG (aB (pv 2) (aB (pv 7) (aB (bW C_Stp hr (aB (pv 0) (aN aD))) (aB (pv 5) (aN (pv 6)))))))))) aO)
  (eY 8 nd (aM bT (pv 5) (bW C_Draw hr (aB (pv 0) (aN (aM bT (aM dP (pv 6) (pv 5)) aD)))))
  (aF (aU (aL (aB aG (aB (pv 2) (aB (pv 8) (aB (bW C_Stp hr (aB (pv 0) (aN aD))) (aB (bW C_Stp hr (aB (pv 0) (aN aD))) (aB (pv 7) (aB (pv 5) (aN (pv 6))))))))))))))))))))),?_⟩
 refine ⟨_,rfl,d,l,4,rfl,D,by decide,by decide,fun fo H1 f0 f1 D1 o1=>?_⟩;obtain ⟨le,hle,l0,l1,l3⟩:∃ le:Int,(if decide (V.int fo=V.int 3)=true then (1:Int) else 0)=le/\0<=le/\le<=1/\(fo=3->le=1):=by
  refine ⟨_,rfl,?_⟩
  by_cases c:fo=3
  ·rw [bc (by rw [c];exact af rfl)];exact ⟨by decide,by decide,fun _=>rfl⟩
  ·rw [ar (fun z=>c (by have z:=ag z;injection z))];exact ⟨by decide,by decide,fun z=>absurd z c⟩
 refine ⟨_,rfl,rfl,.inr ⟨_,rfl,?_⟩⟩;rw [hle];refine ⟨_,rfl,_,rfl,_,_,rfl,rfl,d,l,_,rfl,D1,by lia,by lia,fun lo H2 a0 a1 D2 o2=>?_⟩;refine ⟨_,rfl,_,rfl,_,_,rfl,rfl,_,rfl,_,rfl,_,_,rfl,rfl,_,rfl,_,_,rfl,rfl,d,l,_,rfl,D2,by lia,by lia,fun u H3 b0 b1 D3 o3=>⟨_,_,rfl,rfl,?_⟩⟩;have oA:=o1.trans (o2.trans o3);generalize hhi:lo+le+u=hi;refine ⟨_,rfl,rfl,_,rfl,?_⟩
 by_cases c0:fo=0
 ·refine bD (by rw [c0];exact af rfl) ?_;refine ⟨_,rfl,_,rfl,_,rfl,d,l,m,rfl,D3,m0,m3,fun p4 ws4 H4 D4 o4 h4 n4=>⟨_,rfl,d,l,1,rfl,D4,fun p5 a5 b5 H5 D5 o5 h5 _ _ _=>⟨_,rfl,_,rfl,by show 6<=sizeLine;decide,fun p hp=>?_⟩⟩⟩;exact k p "ladder" _ _ (D5.same (aA hp _)) (oA.trans (o4.trans (o5.trans (dZ.of (aA hp _))))) aC (.inl ⟨by decide +kernel,_,_,_,_,rfl,⟨p4,ws4,rfl,(aA hp _) _ _ (TS.out D4 o5 _ _ h4),by (exact oqf)⟩,(au (by lia)).symm⟩)
 refine aR (fun z=>c0 (by have z:=ag z;injection z)) ?_;refine ⟨_,rfl,rfl,_,rfl,?_⟩
 by_cases c1:fo=1
 ·refine bD (by rw [c1];exact af rfl) ?_;refine ⟨_,rfl,_,rfl,_,rfl,d,l,m,rfl,D3,m0,m3,fun p4 ws4 H4 D4 o4 h4 n4=>⟨_,rfl,d,l,5,rfl,D4,by decide,by decide,fun y H5 _ _ D5 o5=>⟨_,rfl,_,rfl,by show 6<=sizeLine;decide,fun p hp=>?_⟩⟩⟩;exact k p "flat" _ _ (D5.same (aA hp _)) (oA.trans (o4.trans (o5.trans (dZ.of (aA hp _))))) aC (.inl ⟨by decide +kernel,_,_,_,_,rfl,⟨p4,ws4,rfl,(aA hp _) _ _ (TS.out D4 o5 _ _ h4),by (exact oqf)⟩,(au (by lia)).symm⟩)
 refine aR (fun z=>c1 (by have z:=ag z;injection z)) ?_;refine ⟨_,rfl,d,l,4,rfl,D3,by decide,by decide,fun n4 H4 e0 e1 D4 o4=>⟨_,_,rfl,rfl,?_⟩⟩;have oB:=oA.trans o4;refine ⟨1+n4,rfl,by lia,by lia,jF (n:=(1+n4).toNat) (fun i ys σ G=>cS G d l/\dZ d l H G/\(∃ v,σ=[v,some (.ref d),some (.int m)])/\ys.length=i/\∀ u∈ys,Sm G u) (bL (by lia)) ⟨D4,oB,⟨_,rfl⟩,rfl,fun _ z=>nomatch z⟩ (by rintro i ys σ G ⟨_,_,_,e,_⟩;lia) ?_ ?_⟩
 ·rintro i ys σ G hi ⟨D5,o5,⟨v,rfl⟩,hl,hS⟩;refine ⟨_,rfl,_,rfl,d,l,m,rfl,D5,m0,m3,fun p6 ws6 H6 D6 o6 h6 n6=>⟨D6,o5.trans o6,⟨_,rfl⟩,by rw [ak,hl];rfl,fun u hu=>?_⟩⟩;rcases du.mp hu with e | e
  ·exact (hS u e).ts (TS.out D5 o6)
  ·rw [dq.mp e];exact ⟨p6,ws6,rfl,h6,by (exact oqf)⟩
 rintro ys σ G ⟨D5,o5,_,hl,hS⟩ lx hlx;refine ⟨lx,ys,rfl,.inl ⟨bI.of aC,fun t6 ht6=>?_⟩⟩;have s6:=(aA hlx (.lst ys)).trans (aA ht6 (.tup ys));have D6:=D5.same s6;have o6:=o5.trans (dZ.of (d:=d) (l:=l) s6);have sms:Sms (aJ (aJ G lx (.lst ys)) t6 (.tup ys)) (.ref t6):=⟨t6,ys,rfl,aC,by lia,fun u hu=>(hS u hu).ts (.of s6)⟩
 generalize aJ (aJ G lx (.lst ys)) t6 (.tup ys)=H6 at D6 o6 sms ⊢;refine ⟨_,rfl,rfl,_,rfl,?_⟩
 by_cases c2:fo=2
 ·refine bD (by rw [c2];exact af rfl) ?_;refine ⟨_,rfl,_,rfl,_,rfl,d,l,1,rfl,D6,fun p7 a7 b7 H7 D7 o7 h7 _ _ _=>⟨_,rfl,_,rfl,by show 6<=sizeLine;decide,fun p hp=>?_⟩⟩;exact k p "choose" _ _ (D7.same (aA hp _)) (o6.trans (o7.trans (dZ.of (aA hp _)))) aC (.inr (.inl ⟨rfl,_,_,_,_,rfl,(sms.ts (TS.out D6 o7)).ts (.of (aA hp _)),(au (by lia)).symm⟩))
 refine aR (fun z=>c2 (by have z:=ag z;injection z)) ?_;have h3:=l3 (by lia);refine ⟨_,rfl,_,rfl,_,rfl,_,rfl,_,_,rfl,rfl,_,_,rfl,rfl,d,l,_,rfl,D6,by lia,by lia,fun mk H7 g0 g1 D7 o7=>⟨_,_,rfl,rfl,?_⟩⟩;refine ⟨_,rfl,_,rfl,_,rfl,d,l,1,rfl,D7,fun p8 a8 b8 H8 D8 o8 h8 _ _ _=>⟨_,rfl,d,l,2,rfl,D8,fun p9 a9 b9 H9 D9 o9 h9 x9 y9 q9=>⟨_,rfl,_,rfl,_,rfl,by show 8<=sizeLine;decide,fun p hp=>?_⟩⟩⟩;exact k p "first" _ _ (D9.same (aA hp _)) (o6.trans (o7.trans (o8.trans (o9.trans (dZ.of (aA hp _)))))) aC (.inr (.inr ⟨rfl,_,_,p9,_,_,_,a9,b9,rfl,(aA hp _) _ _ h9,(((sms.ts (TS.out D6 o7)).ts (TS.out D7 o8)).ts (TS.out D8 o9)).ts (.of (aA hp _)),x9,y9,(au (by have:=q9 (by decide);lia)).symm⟩))
theorem bD0 (C_Draw:Cl P w K mg base 1 spDraw "_law_draw") (C_Thw:Cl P w K mg base 3 spThrow "_law_throw") (C_Trm:Cl P w K mg base 7 (aE3 6) "_law_term"):gN P w K mg base "_law_setting" "_law_setting" bT3 8 ["_law_deal_here","_law_scene","_law_known","_law_x"] spSet:=by
 refine iV ["_law_deal_here","_law_scene","_law_known","_law_x"] fun H Q nd hr h=>?_
 obtain ⟨d,l,sc,nl,kn,many,xs,ks,x,rfl,W0,hk,nk,lk,k⟩:=h;have hu:=lR hr;refine ⟨_,(aE (pdp hu (pv 1) aG (aM dP (pdg hu (pv 1) aG) aD))
  (aE (bE (dM mU (bW C_Draw hr (aB (pv 0) (aN aD))) aD) (aF (aU (bW C_Thw hr (aB (pv 0) (aB (pdg hu (pv 1) aG) (aN (pv 3))))))) aO)
  (aF (aU (aL (aB aG (aB (pv 3) (aN (bW C_Trm hr (aB (pv 0) (aB (pv 2) (aB (aM bT aD (bW C_Draw hr (aB (pv 0) (aN aD)))) (aN aD))))))))))))),?_⟩
 obtain ⟨lf,gl⟩:=W0.left;refine ⟨_,rfl,sc,_,rfl,gl,_,_,rfl,rfl,_,rfl,sc,_,rfl,W0.dput _,?_⟩;have W1:=W0.put (lf - 1);have o1:=W0.off (lf - 1);have hk1:=W0.keep hk nk o1;generalize aJ H sc (.dK (dX many nl (lf - 1)))=H1 at W1 o1 hk1 ⊢;refine ⟨_,rfl,d,l,5,rfl,W1.deal,by decide,by decide,fun y H2 y0 y1 D2 o2=>⟨_,_,rfl,rfl,_,rfl,?_⟩⟩;have W2:=W1.out D2 o2;have oo2:=o1.trans (hJ.out (sc:=sc) o2);have hk2:=aV W1.deal hk1 nk o2;refine rN (fun _=>?_) (fun _=>?_)
 ·refine ⟨_,rfl,_,rfl,sc,_,rfl,W2.getMany,_,rfl,d,l,many,x,rfl,W2.deal,W0.m1,W0.m2,fun p w ws H3 D3 o3 h3 ok3=>?_⟩;exact k (.thr p w x ws false) H3 (W2.out D3 o3) (oo2.trans (hJ.out o3)) ⟨h3,ok3⟩ (.inl ⟨p,w,ws,rfl⟩)
 ·refine ⟨_,rfl,_,rfl,_,rfl,_,rfl,d,l,12,rfl,D2,by decide,by decide,fun z H3 z0 z1 D3 o3=>⟨_,_,rfl,rfl,?_⟩⟩;have W3:=W2.out D3 o3;have hk3:=aV D2 hk2 nk o3;refine ⟨d,l,kn,ks,1+z,6,rfl,D3,hk3,nk,lk,by lia,by lia,by decide,fun t H4 D4 o4 h4 ok4 nm4 sz4 dp4=>⟨by show 3<=sizeLine;decide,fun p hp=>?_⟩⟩;have s5:=aA hp (.tup [.str "let",.str x,.ref t.p]);exact k (.lt p x t) _ ((W3.out D4 o4).same s5) (oo2.trans ((hJ.out o3).trans ((hJ.out o4).trans (.of s5)))) ⟨aC,h4.ts (.of s5),ok4,by lia⟩ (.inr ⟨p,t,rfl,nm4⟩)
theorem xW (m:Nat) (C_Trm:Cl P w K mg base 7 (aE3 6) "_law_term") (C_Blk:Cl P w K mg base (10+2 * m) (zN m) "_law_block") (C_Draw:Cl P w K mg base 1 spDraw "_law_draw"):gN P w K mg base "_law_when" "_law_when" bM5 (10+2 * m+1) ["_law_deal_here","_law_scene","_law_known","_law_tells_here","_law_deep"] (aX7 (m+1)):=by
 refine iV ["_law_deal_here","_law_scene","_law_known","_law_tells_here","_law_deep","_law_term_here","_law_one","_law_ones","_law_other","_law_others"] fun H Q nd hr h=>?_
 obtain ⟨d,l,sc,nl,kn,many,xs,ks,tells,deep,rfl,W0,hk,nk,lk,t0,t4,hm,hd,k⟩:=h;have hu:=lR hr;refine ⟨_,(aE (pdp hu (pv 1) aG (aM dP (aM dP (pdg hu (pv 1) aG) aD) (pv 3)))
  (eY 5 nd (bW C_Trm hr (aB (pv 0) (aB (pv 2) (aB (aM bT aD (bW C_Draw hr (aB (pv 0) (aN aD)))) (aN aD)))))
  (aE (fU (bW C_Blk hr (aB (pv 0) (aB (pv 1) (aB (pv 2) (aB (pv 3) (aN (aM bT (pv 4) aD))))))) (eG rfl (aY (eO 6 nd) (aY (eO 7 nd) dN))))
  (aE (fU (bW C_Blk hr (aB (pv 0) (aB (pv 1) (aB (pv 2) (aB (pv 3) (aN (aM bT (pv 4) aD))))))) (eG rfl (aY (eO 8 nd) (aY (eO 9 nd) dN))))
  (aF (aU (aL (aB (aL (aB aG (aB (pv 5) (aB (pv 6) (aN (pv 8)))))) (aN (cQ ["_law_name","_law_others"] [none,some 9] (dW (pv 7)) (fun _ _ _ _=>(eO 0)) (fun _ _ _ _=>(mE (dM (inK K) (pv 0) (pv 1)))) (fun _ _ _ _=>(pv 0)))))))))))),?_⟩
 have cl:=zB m;obtain ⟨lf,gl⟩:=W0.left;refine ⟨_,rfl,sc,_,rfl,gl,_,_,rfl,rfl,_,rfl,_,_,rfl,rfl,_,rfl,sc,_,rfl,W0.dput _,?_⟩;have W1:=W0.put (lf - 1 - tells);have o1:=W0.off (lf - 1 - tells);have hk1:=W0.keep hk nk o1;generalize aJ H sc (.dK (dX many nl (lf - 1 - tells)))=H1 at W1 o1 hk1 ⊢;refine ⟨_,rfl,_,rfl,_,rfl,d,l,5,rfl,W1.deal,by decide,by decide,fun y H2 y0 y1 D2 o2=>⟨_,_,rfl,rfl,?_⟩⟩;have W2:=W1.out D2 o2;have hk2:=aV W1.deal hk1 nk o2;refine ⟨d,l,kn,ks,1+y,3,rfl,D2,hk2,nk,by lia,by lia,by lia,by decide,fun t H3 D3 o3 h3 ok3 nm3 sz3 dp3=>?_⟩;have W3:=W2.out D3 o3;have hk3:=aV D2 hk2 nk o3;have oA:=o1.trans ((hJ.out (sc:=sc) o2).trans (hJ.out (sc:=sc) o3));refine ⟨_,rfl,_,rfl,_,rfl,_,rfl,_,rfl,_,_,rfl,rfl,d,l,sc,nl,kn,many,xs,ks,tells,deep+1,rfl,W3,hk3,nk,lk,t0,t4,by (exact oqf),by lia,fun p4 pr4 kn4 rs4 k4 H4 W4 o4 h4 hp4 hr4 c4 q4 n4 hk4 b4 dp4=>?_⟩;refine ⟨p4,_,rfl,aQ.of h4,rfl,_,_,rfl,_,_,rfl,rfl,?_⟩
 have hkk4:=W3.keep hk3 nk o4;refine ⟨_,rfl,_,rfl,_,rfl,_,rfl,_,rfl,_,_,rfl,rfl,d,l,sc,nl,kn,many,xs,ks,tells,deep+1,rfl,W4,hkk4,nk,lk,t0,t4,by (exact oqf),by lia,fun p5 pr5 kn5 rs5 k5 H5 W5 o5 h5 hp5 hr5 c5 q5 n5 hk5 b5 dp5=>?_⟩;refine ⟨p5,_,rfl,aQ.of h5,rfl,_,_,rfl,_,_,rfl,rfl,?_⟩;have ts45:=W4.ts o5;have hk45:=W4.keep hk4 n4 o5;have oB:=oA.trans (o4.trans o5);refine ⟨_,rfl,_,rfl,_,rfl,by show 4<=sizeLine;decide,fun q hq=>?_⟩;obtain ⟨H6,e0,s6,h6⟩:=hV hq (.tup [.str "when",.ref t.p,.ref pr4,.ref pr5]);rw [e0];clear e0;have l4:=nO.len rs4 b4.sc;have l5:=nO.len rs5 b5.sc;refine ⟨_,rfl,kn4,rfl,⟨_,bI.of (s6 _ _ hk45)⟩,cO (K:=K) (a:=kn4) (xs:=k4.map V.str) (fun i ys σ G=>G=H6/\(∃ v,σ=[v,some (.ref kn5)])/\ys=((k4.take i).filter fun x=>decide (x∈k5)).map V.str)
  (cE (by rw [aa];lia)) ⟨rfl,⟨_,rfl⟩,rfl⟩ (fun i ys σ G ⟨_,_,e⟩=>by
   rw [e,aa];exact cj (gp _ _) (by rw [cv];lia)) (by rintro i ys σ G _ ⟨e,_⟩;rw [e];exact bI.of (s6 _ _ hk45)) ?_ ?_⟩
 ·rintro i v ys σ G hv ⟨rfl,⟨v',rfl⟩,rfl⟩;obtain ⟨x,rfl,hx⟩:=eT hv;refine ⟨_,rfl,_,rfl,kn5,_,rfl,.inl (bI.of (s6 _ _ hk5)),rfl,eJ _,_,rfl,?_⟩;have ei:oM (V.str x) (k5.map V.str)=decide (x∈k5):=dL _ _;rw [bK hx,qv,bg]
  by_cases c:x∈k5
  ·refine bD (ei.trans (af c)) ⟨_,rfl,rfl,⟨_,rfl⟩,?_⟩;rw [tj (p:=fun x=>decide (x∈k5)) (af c)];rfl
  ·refine aR (fun z=>c (ag (ei.symm.trans z))) ⟨rfl,⟨_,rfl⟩,?_⟩;rw [tq (p:=fun x=>decide (x∈k5)) (by simpa using c)];simp
 rintro ys σ G ⟨rfl,_,rfl⟩ l7 hl7;rw [aa,ci];have s7:=aA hl7 (.lst ((k4.filter fun x=>decide (x∈k5)).map V.str));have h7:aJ G l7 (.lst ((k4.filter fun x=>decide (x∈k5)).map V.str)) l7=some (.lst ((k4.filter fun x=>decide (x∈k5)).map V.str)):=aC;have n7:H l7=none:=oB.fresh W5.all (s6.free hl7);generalize aJ G l7 (.lst ((k4.filter fun x=>decide (x∈k5)).map V.str))=H7 at s7 h7 ⊢;refine ⟨bJ,fun p hp=>?_⟩;have s8:=s6.trans (s7.trans (aA hp (.tup [.ref q,.ref l7])));have s9:=s7.trans (aA hp (.tup [.ref q,.ref l7]));refine k p l7 (.when q pr4 pr5 t rs4 rs5) _ _ (W5.same s8) (oB.trans (.of s8)) aC ⟨s9 _ _ h6,h3.ts (((W3.ts o4).trans ts45).trans (.of s8)),⟨ok3,by lia⟩,s8 _ _ (ts45 _ _ hp4),s8 _ _ hp5,aX.ts (ts45.trans (.of s8)) _ hr4,aX.ts (.of s8) _ hr5⟩ ?_ n7 ((aA hp _) _ _ h7) ⟨nm3,k4,k5,b4.sc,b5.sc,rfl⟩ b4.tl ⟨by rw [b4.tl,b5.tl],b4.tk,b5.tk⟩ (by simp only [Rw.dp];lia)
 simp only [Rw.cnt]
 lia
theorem uL (m:Nat) (C_Draw:Cl P w K mg base 1 spDraw "_law_draw") (C_Trm:Cl P w K mg base 7 (aE3 6) "_law_term") (C_Set:Cl P w K mg base 8 spSet "_law_setting") (C_Whn:Cl P w K mg base (9+2 * m) (aX7 m) "_law_when") (C_Blk:Cl P w K mg base (8+2 * m) (bE7 m) "_law_block") (m_range:mg "range"=none) (m_tuple:mg "tuple"=none) (m_len:mg "len"=none):gN P w K mg base "_law_block" "_law_block" bT6 (9+2 * m+1) ["_law_deal_here","_law_scene","_law_known","_law_tells_here","_law_deep"] (zN m):=by
 refine iV ["_law_deal_here","_law_scene","_law_known","_law_tells_here","_law_deep","_law_rows","_law_k","_law_form","_law_inner","_law_turns","_law_x","_law_row"] fun H Q nd hr h=>?_
 obtain ⟨d,l,sc,nl,kn,many,xs,ks,tells,deep,rfl,W0,hk,nk,lk,t0,t4,hm,hd,k⟩:=h;have hu:=lR hr;have hr8:eE 8 _:=hr.mono (by lia);refine ⟨_,(@aE _ _ _ _ _ (kZ 5 nd (bS cF))
  (@aE _ _ _ _ _ (pfr (eZ (by rfl) m_range (aN (bW C_Draw hr (aB (pv 0) (aN (bV cY (@bS _ _ _ _ (@aB _ _ _ _ _ aD (@aB _ _ _ _ _ aD (@aB _ _ _ _ _ aD (@aB _ _ _ _ _ aD cF rfl) rfl) rfl) rfl)) (pv 4))))))) (eO 6 nd)
  (eY 7 nd (bW C_Draw hr (aB (pv 0) (aN aD)))
  (eY 8 nd (bW C_Draw hr (aB (pv 0) (aN (aM bT (pv 3) aD))))
  (eY 9 nd (aM bT aD (bW C_Draw hr (aB (pv 0) (aN aD))))
  (aF (bE (dY (PW.pt (eR (dM bP (pv 7) aD) (eU (dM eW (pv 3) aD))))) (eY 3 nd (aM dP (pv 3) aD)
  (aF (bR (dG aj bo bq bM (pv 5) (aN (aL (aB aG (aN (bW C_Trm hr (aB (pv 0) (aB (pv 2) (aB (aM bT aD (bW C_Draw hr (aB (pv 0) (aN aD)))) (aN aD))))))))))))) (aF (bE (dY (PW.pt (eR (dM mU (pv 7) aD) (eU (dM eW (pdg hu (pv 1) aG) aD))))) (eY 10 nd (bV cY (pdg hu (pv 1) aG) (bW C_Draw hr (aB (pv 0) (aN (iK aW m_len bz (aN (pdg hu (pv 1) aG)))))))
  (aE (bR (dG aj bo bq bM (pv 5) (aN (bW C_Set hr (aB (pv 0) (aB (pv 1) (aB (pv 2) (aN (pv 10)))))))))
  (aF (kZ 2 nd (aM fR (pv 2) (bS (aN (pv 10)))))))) (aF (bE (dY (PW.pt (eR (dM mU (pv 7) aD) (eR (dM mU (pv 4) aD) (eU (dM eW (pdg hu (pv 1) aG) (pv 8))))))) (eY 3 nd (aM dP (pv 3) (pv 8))
  (aE (fU (bW C_Whn hr (aB (pv 0) (aB (pv 1) (aB (pv 2) (aB (pv 8) (aN (pv 4))))))) (eG rfl (aY (eO 11 nd) (aY (eO 2 nd) dN))))
  (aF (bR (dG aj bo bq bM (pv 5) (aN (pv 11))))))) (aF (bE (dY (PW.pt (eR (dM bP (pv 7) aD) (eR (dM mU (pv 4) aD) (eR (dM eW (pdg hu (pv 1) aG) aD) (eU (dM tK (aM fP (pv 8) (pv 9)) (pv 3)))))))) (aE (pdp hu (pv 1) aG (aM dP (aM bT (aM dP (pdg hu (pv 1) aG) aD) (aM fP (pv 8) (pv 9))) (pv 8)))
  (eY 3 nd (aM dP (pv 3) (aM fP (pv 8) (pv 9)))
  (aE (fU (bW C_Blk hr (aB (pv 0) (aB (pv 1) (aB (pv 2) (aB (pv 8) (aN (aM bT (pv 4) aD))))))) (eG rfl (aY (eO 11 nd) (aY (eO 2 nd) dN))))
  (aF (bR (dG aj bo bq bM (pv 5) (aN (aL (aB aG (aB (pv 9) (aN (pv 11)))))))))))) aO))))))))))))
  (@aE _ _ _ _ _ (pfr (eZ (by rfl) m_range (aN (pv 3))) (eO 6 nd)
  (aF (bR (dG aj bo bq bM (pv 5) (aN (aL (aB aG (aN (bW C_Trm hr (aB (pv 0) (aB (pv 2) (aB (aM bT aD (bW C_Draw hr (aB (pv 0) (aN aD)))) (aN aD)))))))))))))
  (@aF _ _ _ (aU (aL (aB (xD cX m_tuple ee (aN (pv 5))) (aN (pv 2))))))))),?_⟩
 have cl:=zB m;have ce:=bR1 hm;have tle:=bQ2 m;refine ⟨av _,fun lr hlr=>?_⟩;have nlr:=(bZ W0.deal hlr).2;have nln:lr≠nl:=(aK W0.nms hlr).symm;have nlk:kn≠lr:=aK hk hlr;obtain ⟨H1,e0,s1,h1⟩:=hV hlr (.lst []);rw [e0];clear e0;have W1:=W0.same s1;refine ⟨_,rfl,by show 4<=sizeLine;decide,fun l0 hl0=>?_⟩;have n0:=(bZ W1.deal hl0).2;have s2:=s1.trans (aA hl0 (.lst [.int 8,.int 5,.int 3,.int 3]));have h2:aJ H1 l0 (.lst [.int 8,.int 5,.int 3,.int 3]) l0=some (.lst [.int 8,.int 5,.int 3,.int 3]):=aC;have h12:=(aA hl0 (.lst [.int 8,.int 5,.int 3,.int 3])) _ _ h1;generalize aJ H1 l0 (.lst [.int 8,.int 5,.int 3,.int 3])=H2 at s2 h2 h12 ⊢;have W2:=W0.same s2;refine ⟨_,rfl,l0,_,_,.int ((tn m:Int)+1),rfl,rfl,bI.of h2,bK5 hm hd,d,l,(tn m:Int)+1,rfl,W2.deal,by lia,by lia,fun n H3 n1 n2 D3 o3=>?_⟩;have W3:=W2.out D3 o3;have h13:=aV W2.deal h12 nlr o3;have hk3:=aV W2.deal (s2 _ _ hk) nk o3;have oA:=(hJ.of (S:=[d,l,sc]) s2).trans (hJ.out (sc:=sc) o3)
 refine ⟨n,rfl,by (exact oqb),by lia,rF (n:=n.toNat) (fun i σ G=>∃ (rs:List Rw) (knc:Addr) (kc:List Str) (tl:Int) (v6 v7 v8 v9 v10 v11:Option V),σ=[some (.ref d),some (.ref sc),some (.ref knc),some (.int tl),some (.int deep),some (.ref lr),v6,v7,v8,v9,v10,v11]/\Wd G d l sc nl many xs/\hJ [d,l,sc] H G/\G lr=some (.lst (bG rs))/\aX G rs/\aP rs<=i * pb m/\(knc=kn\/H knc=none)/\knc≠l/\knc≠lr/\G knc=some (.lst (kc.map V.str))/\nO ks rs kc/\cW rs+tl=tells/\(eB rs/\dI rs<=m)/\0<=tl/\tl<=4)
  ⟨[],kn,ks,tells,none,none,none,none,none,none,rfl,W3,oA,h13,trivial,by simp [aP],.inl rfl,nk,nlk,hk3,rfl,by simp [cW],⟨trivial,av _⟩,t0,t4⟩ ?_ ?_⟩
 ·rintro D' N i hN σ G hi ⟨rs,knc,kc,tl,v6,v7,v8,v9,v10,v11,rfl,W4,o4,g1,hR,hc,hq,nkl,nkr,gk,hS,hT,hK,tl0,tl4⟩;have i1:i+1<=tn m:=by lia
  have mul1:(i+1) * pb m<=tn m * pb m:=vn _ i1;have mul2:(i+1) * pb m=i * pb m+pb m:=Nat.succ_mul _ _;have ki:=nO.len rs hS;have li:=eI rs;have pb1:1<=pb m:=by cases m <;> simp [pb]
  refine ⟨_,rfl,d,l,8,rfl,W4.deal,by decide,by decide,fun fo H5 f0 f1 D5 o5=>?_⟩;have W5:=W4.out D5 o5;refine ⟨_,rfl,_,rfl,_,_,rfl,rfl,d,l,tl+1,rfl,D5,by lia,by lia,fun inn H6 q0 q1 D6 o6=>?_⟩;have W6:=W5.out D6 o6;refine ⟨_,rfl,d,l,3,rfl,D6,by decide,by decide,fun tu H7 u0 u1 D7 o7=>⟨_,_,rfl,rfl,?_⟩⟩;have W7:=W6.out D7 o7;have oB:=o4.trans ((hJ.out (sc:=sc) o5).trans ((hJ.out (sc:=sc) o6).trans (hJ.out (sc:=sc) o7)));have oC:hJ [d,l,sc] G H7:=(hJ.out (sc:=sc) o5).trans ((hJ.out (sc:=sc) o6).trans (hJ.out (sc:=sc) o7));have g17:=W4.keep g1 nlr oC;have gk7:=W4.keep gk nkl oC;have hR7:=aX.ts (W4.ts oC) rs hR;clear W5 W6 D5 D6 D7 o5 o6 o7 oC W4 g1 gk hR o4;have sz:(bG rs).length < sizeLine:=by rw [bU];exact cE (by lia)
  have kz:kc.length<=10000:=by lia
  refine ⟨fun b G1=>G1=H7/\(b=true->fo=0/\0 < tl),⟨_,rfl,rfl,_,rfl,?_⟩,?_⟩
  ·by_cases c:fo=0
   ·refine bD (by rw [c];exact af rfl) ⟨_,rfl,_,_,rfl,rfl,_,rfl,rfl,fun z=>⟨c,ag z⟩⟩
   ·exact aR (fun z=>c (by have z:=ag z;injection z)) ⟨rfl,fun z=>nomatch z⟩
  rintro b G1 ⟨rfl,hb⟩
  cases b with
  |true =>
   refine bD rfl ?_;obtain ⟨_,tp⟩:=hb rfl;refine ⟨_,rfl,_,_,rfl,rfl,?_⟩;refine ⟨_,rfl,.inl ⟨rfl,_,bI.of g17⟩,_,rfl,_,rfl,_,rfl,d,l,12,rfl,W7.deal,by decide,by decide,fun y H8 y0 y1 D8 o8=>⟨_,_,rfl,rfl,?_⟩⟩;have W8:=W7.out D8 o8;have g18:=aV W7.deal g17 nlr o8;have gk8:=aV W7.deal gk7 nkl o8;refine ⟨d,l,knc,kc,1+y,6,rfl,D8,gk8,nkl,kz,by lia,by lia,by decide,fun t H9 D9 o9 h9 ok9 nm9 sz9 dp9=>⟨bJ,fun p hp=>?_⟩⟩;have W9:=W8.out D9 o9;have g19:=aV D8 g18 nlr o9;have gk9:=aV D8 gk8 nkl o9;have sA:=aA hp (.tup [.str "tell",.ref t.p]);have gA:aJ H9 p (.tup [.str "tell",.ref t.p]) p=some (.tup [.str "tell",.ref t.p]):=aC;have o79:hJ [d,l,sc] G1 H9:=(hJ.out (sc:=sc) o8).trans (hJ.out (sc:=sc) o9);have hR9:=aX.ts (W7.ts o79) rs hR7;generalize aJ H9 p (.tup [.str "tell",.ref t.p])=HA at sA gA ⊢;refine ⟨lr,_,_,rfl,rfl,sA _ _ g19,sz,?_⟩;have W10:=(W9.same sA).lst (zs:=bG rs++[.ref p]) (sA _ _ g19) nlr nln
   have tsN:=(TS.of sA).trans (TS.lst (ys:=bG rs++[.ref p]) (sA _ _ g19));have gR:aJ HA lr (.lst (bG rs++[.ref p])) lr=some (.lst (bG (rs++[.tell p t]))):=by rw [aC,kX];rfl
   have hpN:aJ HA lr (.lst (bG rs++[.ref p])) p=_:=TS.lst (sA _ _ g19) _ _ gA;have gkN:aJ HA lr (.lst (bG rs++[.ref p])) knc=_:=(aH nkr).trans (sA _ _ gk9);have oD:hJ [d,l,sc] H (aJ HA lr (.lst (bG rs++[.ref p]))):=(oB.trans (o79.trans (.of sA))).new hlr;have hRR:=aX.ts tsN rs hR9;refine hN _ _ ⟨rs++[.tell p t],knc,kc,tl - 1,_,_,_,_,_,_,rfl,W10,oD,gR,aX.app (qs:=[.tell p t]) hRR ⟨⟨hpN,h9.ts tsN,ok9,by lia⟩,trivial⟩,?_,hq,nkl,nkr,gkN,nO.app (r:= .tell p t) (ks:=ks) hS ⟨rfl,nm9⟩,?_,⟨eB.app (qs:=[.tell p t]) hK.1 ⟨trivial,trivial⟩,lK hK.2 (av _)⟩,by lia,by lia⟩
   ·rw [cM];simp only [aP,Rw.cnt];lia
   ·rw [iE];simp only [cW,kU];lia
  |false =>
  refine aR (by simp) ?_;refine ⟨fun b G2=>G2=G1/\True,⟨_,rfl,_,_,rfl,rfl,_,rfl,?_⟩,?_⟩
  ·obtain ⟨lf,gl⟩:=W7.left;refine rN (fun _=>⟨_,rfl,sc,_,rfl,gl,_,_,rfl,rfl,_,rfl,rfl,trivial⟩) (fun _=>⟨rfl,trivial⟩)
  rintro b G2 ⟨rfl,_⟩
  cases b with
  |true =>
   refine bD rfl ?_;refine ⟨_,rfl,sc,_,rfl,W7.names,_,rfl,_,rfl,sc,_,rfl,W7.names,nl,_,rfl,.inl (bI.of W7.nms),d,l,_,rfl,W7.deal,by rw [aa];have:=W7.x1;lia,by rw [aa];have:=W7.x2;(exact oqq),fun y H8 y0 y1 D8 o8=>?_⟩;obtain ⟨v,hv,ha⟩:=eV y0 y1;obtain ⟨x,rfl,hx⟩:=eT hv;have W8:=W7.out D8 o8;have g18:=aV W7.deal g17 nlr o8;have gk8:=aV W7.deal gk7 nkl o8;refine ⟨nl,_,_,.str x,rfl,rfl,bI.of W8.nms,ha,?_⟩;refine ⟨_,rfl,.inl ⟨rfl,_,bI.of g18⟩,_,rfl,_,rfl,_,rfl,_,rfl,d,l,sc,nl,knc,many,xs,kc,x,rfl,W8,gk8,nkl,kz,fun r H9 W9 o9 h9 set9=>?_⟩;have o89:hJ [d,l,sc] G2 H9:=(hJ.out (sc:=sc) o8).trans o9;have g19:=W7.keep g17 nlr o89;have gk9:=W7.keep gk7 nkl o89;have hR9:=aX.ts (W7.ts o89) rs hR7;refine ⟨lr,_,_,rfl,rfl,g19,sz,?_⟩;have W10:=W9.lst (zs:=bG rs++[.ref r.p]) g19 nlr nln;have tsN:=TS.lst (ys:=bG rs++[.ref r.p]) g19;have gR:aJ H9 lr (.lst (bG rs++[.ref r.p])) lr=some (.lst (bG (rs++[r]))):=by rw [aC,kX];rfl
   have gkN:aJ H9 lr (.lst (bG rs++[.ref r.p])) knc=_:=(aH nkr).trans gk9;have oD:hJ [d,l,sc] H (aJ H9 lr (.lst (bG rs++[.ref r.p]))):=(oB.trans o89).new hlr;have hRR:=aX.app (aX.ts tsN rs hR9) (show aX (aJ H9 lr (.lst (bG rs++[.ref r.p]))) [r] from ⟨cJ.ts tsN r h9,trivial⟩);generalize aJ H9 lr (.lst (bG rs++[.ref r.p]))=HN at W10 gR gkN oD hRR ⊢;refine ⟨_,rfl,_,rfl,eQ,fun l11 hl11=>?_⟩;obtain ⟨H11,e0,s11,g11⟩:=hV hl11 (.lst [.str x]);rw [e0];clear e0;refine ⟨knc,l11,_,_,rfl,rfl,s11 _ _ gkN,g11,bu (cE (by rw [aa];show kc.length+1<=_;lia)),fun l12 hl12=>?_⟩;have s12:=s11.trans (aA hl12 (.lst (kc.map V.str++[.str x])));have n12:H l12=none:=oD.fresh W10.all (s11.free hl12);have n12l:=(bZ (W10.deal.same s11) hl12).2;have n12r:l12≠lr:=(aK (s11 _ _ gR) hl12).symm;have ck:r.cnt=1/\ScR kc r (kc++[x])/\kU r=0/\wW r/\r.dp=0:=by
    rcases set9 with ⟨p,w,vs,rfl⟩ | ⟨p,t,rfl,nm⟩
    ·exact ⟨rfl,⟨rfl,rfl⟩,rfl,trivial,rfl⟩
    ·exact ⟨rfl,⟨rfl,nm⟩,rfl,trivial,rfl⟩
   refine hN _ _ ⟨rs++[r],l12,kc++[x],tl,_,_,_,_,_,_,rfl,W10.same s12,oD.trans (.of s12),s12 _ _ gR,aX.ts (.of s12) _ hRR,?_,.inr n12,n12l,n12r,?_,nO.app (ks:=ks) hS ck.2.1,?_,⟨eB.app hK.1 ⟨ck.2.2.2.1,trivial⟩,lK hK.2 (by have:=ck.2.2.2.2;lia)⟩,tl0,tl4⟩
   ·rw [cM];simp only [aP];have:=ck.1;lia
   ·rw [aC,bg];rfl
   ·rw [iE];simp only [cW];have:=ck.2.2.1;lia
  |false =>
  refine aR (by simp) ?_;refine ⟨fun b G3=>G3=G2/\(b=true->deep < 3),⟨_,rfl,_,_,rfl,rfl,_,rfl,?_⟩,?_⟩
  ·obtain ⟨lf,gl⟩:=W7.left;refine rN (fun _=>⟨_,rfl,_,_,rfl,rfl,_,rfl,?_⟩) (fun _=>⟨rfl,fun z=>nomatch z⟩)
   by_cases c:deep < 3
   ·exact bD (af c) ⟨_,rfl,sc,_,rfl,gl,_,rfl,_,_,rfl,rfl,_,rfl,rfl,fun _=>c⟩
   ·exact aR (by simpa using c) ⟨rfl,fun z=>nomatch z⟩
  rintro b G3 ⟨rfl,hb⟩
  cases b with
  |true =>
   refine bD rfl ?_;have d3:=hb rfl
   cases m with
   |zero=>exact absurd d3 (by lia)
   |succ m =>
   have clm:=zB m;simp only [pb] at pb1 hc mul1 mul2 ce;refine ⟨_,rfl,_,rfl,_,_,rfl,rfl,?_⟩;refine ⟨_,rfl,_,rfl,_,rfl,_,rfl,_,rfl,d,l,sc,nl,knc,many,xs,kc,inn,deep,rfl,W7,gk7,nkl,by lia,q0,by lia,by lia,by lia,fun p8 kn8 r8 k8 H8 W8 o8 h8 hr8 c8 f8 hk8 sc8 tl8 tk8 dp8=>?_⟩;refine ⟨p8,_,rfl,aQ.of h8,rfl,_,_,rfl,_,_,rfl,rfl,?_⟩;have g18:=W7.keep g17 nlr o8;have hR8:=aX.ts (W7.ts o8) rs hR7;have n8l:=(bZ W7.deal f8).2;have n8r:kn8≠lr:=(aK g17 f8).symm;have n8:H kn8=none:=oB.fresh W7.all f8;refine ⟨_,rfl,.inl ⟨rfl,_,bI.of g18⟩,_,rfl,lr,_,_,rfl,rfl,g18,sz,?_⟩;have W10:=W8.lst (zs:=bG rs++[.ref r8.p]) g18 nlr nln;have tsN:=TS.lst (ys:=bG rs++[.ref r8.p]) g18;have gR:aJ H8 lr (.lst (bG rs++[.ref r8.p])) lr=some (.lst (bG (rs++[r8]))):=by rw [aC,kX];rfl
   refine hN _ _ ⟨rs++[r8],kn8,k8,tl - inn,_,_,_,_,_,_,rfl,W10,(oB.trans o8).new hlr,gR,aX.app (aX.ts tsN rs hR8) ⟨cJ.ts tsN r8 hr8,trivial⟩,?_,.inr n8,n8l,n8r,(aH n8r).trans hk8,nO.app (ks:=ks) hS sc8,?_,⟨eB.app hK.1 ⟨tk8,trivial⟩,lK hK.2 dp8⟩,by lia,by lia⟩
   ·rw [cM];simp only [aP,pb];lia
   ·rw [iE];simp only [cW];lia
  |false =>
  refine aR (by simp) ?_;refine ⟨fun b G4=>G4=G3/\(b=true->deep < 3/\inn * (1+tu)<=tl),⟨_,rfl,rfl,_,rfl,?_⟩,?_⟩
  ·obtain ⟨lf,gl⟩:=W7.left;refine rN (fun _=>⟨_,rfl,_,_,rfl,rfl,_,rfl,?_⟩) (fun _=>⟨rfl,fun z=>nomatch z⟩)
   by_cases c:deep < 3
   ·refine bD (af c) ⟨_,rfl,sc,_,rfl,gl,_,_,rfl,rfl,_,rfl,?_⟩;exact rN (fun _=>⟨_,rfl,_,rfl,_,_,rfl,rfl,.inr ⟨by lia,by lia⟩,_,rfl,_,_,rfl,rfl,_,rfl,rfl,fun z=>⟨c,ag z⟩⟩) (fun _=>⟨rfl,fun z=>nomatch z⟩)
   ·exact aR (by simpa using c) ⟨rfl,fun z=>nomatch z⟩
  rintro b G4 ⟨rfl,hb⟩
  cases b with
  |true =>
   refine bD rfl ?_;obtain ⟨d3,it⟩:=hb rfl
   cases m with
   |zero=>exact absurd d3 (by lia)
   |succ m =>
   have clm:=zB m;simp only [pb] at pb1 hc mul1 mul2 ce;obtain ⟨lf,gl⟩:=W7.left;have mb:aS0 inn (1+tu):= .inr ⟨by lia,by lia⟩;refine ⟨_,rfl,sc,_,rfl,gl,_,_,rfl,rfl,_,rfl,_,rfl,_,_,rfl,rfl,mb,_,_,rfl,rfl,_,rfl,_,_,rfl,rfl,_,rfl,sc,_,rfl,W7.dput _,?_⟩;have W8:=W7.put (lf - 1+inn * (1+tu) - inn);have o8:=W7.off (lf - 1+inn * (1+tu) - inn);have g18:=W7.keep g17 nlr o8;have gk8:=W7.keep gk7 nkl o8;have hR8:=aX.ts (W7.ts o8) rs hR7;generalize aJ G4 sc (.dK (dX many nl (lf - 1+inn * (1+tu) - inn)))=H8 at W8 o8 g18 gk8 hR8 ⊢;refine ⟨_,rfl,_,rfl,_,rfl,_,_,rfl,rfl,mb,_,_,rfl,rfl,?_⟩;refine ⟨_,rfl,_,rfl,_,rfl,_,rfl,_,rfl,_,_,rfl,rfl,d,l,sc,nl,knc,many,xs,kc,inn,deep+1,rfl,W8,gk8,nkl,by lia,q0,by lia,by (exact oqC),by lia,fun p9 pr9 kn9 rs9 k9 H9 W9 o9 h9 hp9 hr9 c9 q9 n9 hk9 b9 dp9=>?_⟩;refine ⟨p9,_,rfl,aQ.of h9,rfl,_,_,rfl,_,_,rfl,rfl,?_⟩;have g19:=W8.keep g18 nlr o9;have hR9:=aX.ts (W8.ts o9) rs hR8
   have n9r:kn9≠lr:=by
    rcases q9 with e | e
    ·rw [e];exact nkr
    ·exact (aK g18 e).symm
   have n9f:kn9=kn\/H kn9=none:=by
    rcases q9 with e | e
    ·rw [e];exact hq
    ·exact .inr ((oB.trans o8).fresh W8.all e)
   refine ⟨_,rfl,.inl ⟨rfl,_,bI.of g19⟩,_,rfl,_,rfl,by show 3<=sizeLine;decide,fun p hp=>?_⟩;obtain ⟨HA,e0,sA,gA⟩:=hV hp (.tup [.str "times",.int (1+tu),.ref pr9]);rw [e0];clear e0;refine ⟨lr,_,_,rfl,rfl,sA _ _ g19,sz,?_⟩;have W10:=(W9.same sA).lst (zs:=bG rs++[.ref p]) (sA _ _ g19) nlr nln;have tsN:=(TS.of sA).trans (TS.lst (ys:=bG rs++[.ref p]) (sA _ _ g19));have gR:aJ HA lr (.lst (bG rs++[.ref p])) lr=some (.lst (bG (rs++[.times p pr9 (1+tu) rs9]))):=by rw [aC,kX];rfl
   refine hN _ _ ⟨rs++[.times p pr9 (1+tu) rs9],kn9,k9,tl - inn * (1+tu),_,_,_,_,_,_,rfl,W10,(oB.trans (o8.trans (o9.trans (.of sA)))).new hlr,gR,aX.app (qs:=[.times p pr9 (1+tu) rs9]) (aX.ts tsN rs hR9) ⟨⟨TS.lst (sA _ _ g19) _ _ gA,tsN _ _ hp9,aX.ts tsN rs9 hr9⟩,trivial⟩,?_,n9f,n9,n9r,(aH n9r).trans (sA _ _ hk9),nO.app (r:= .times p pr9 (1+tu) rs9) (ks:=ks) hS b9.sc,?_,⟨eB.app (qs:=[.times p pr9 (1+tu) rs9]) hK.1 ⟨⟨⟨by lia,by lia,by rw [b9.tl];assumption,by rw [b9.tl];lia⟩,b9.tk⟩,trivial⟩,lK hK.2 (by simp only [Rw.dp];lia)⟩,by (exact oqn),by have:=Int.mul_nonneg q0 (show (0:Int)<=1+tu by lia);lia⟩
   ·rw [cM];simp only [aP,Rw.cnt,pb];lia
   ·rw [iE];simp only [cW,kU];rw [b9.tl,Int.mul_comm (1+tu) inn]
    lia
  |false =>
   refine aR (by simp) ?_;exact hN _ _ ⟨rs,knc,kc,tl,_,_,_,_,_,_,rfl,W7,oB,g17,hR7,by lia,hq,nkl,nkr,gk7,hS,hT,hK,tl0,tl4⟩
 ·rintro σ G ⟨rs,knc,kc,tl,v6,v7,v8,v9,v10,v11,rfl,W4,o4,g1,hR,hc,hq,nkl,nkr,gk,hS,hT,hK,tl0,tl4⟩;have mul1:n.toNat * pb m<=tn m * pb m:=vn _ (by lia);have ki:=nO.len rs hS;refine ⟨_,rfl,tl,rfl,by (exact oqb),by (exact oqc),rF (n:=tl.toNat) (fun i σ G=>∃ (rs:List Rw) (v6:Option V),σ=[some (.ref d),some (.ref sc),some (.ref knc),some (.int tl),some (.int deep),some (.ref lr),v6,v7,v8,v9,v10,v11]/\Wd G d l sc nl many xs/\hJ [d,l,sc] H G/\G lr=some (.lst (bG rs))/\aX G rs/\aP rs<=tn m * pb m+i/\G knc=some (.lst (kc.map V.str))/\nO ks rs kc/\cW rs+(tl - (i:Int))=tells/\(eB rs/\dI rs<=m))
   ⟨rs,v6,rfl,W4,o4,g1,hR,by lia,gk,hS,by lia,hK⟩ ?_ ?_⟩
  ·rintro D' N i hN σ G' hi ⟨rs,v6,rfl,W7,o7,g17,hR7,hc,gk7,hS,hT,hK⟩;have li:=eI rs;have sz:(bG rs).length < sizeLine:=by rw [bU];exact cE (by lia)
   refine ⟨_,rfl,.inl ⟨rfl,_,bI.of g17⟩,_,rfl,_,rfl,_,rfl,d,l,6,rfl,W7.deal,by decide,by decide,fun y H8 y0 y1 D8 o8=>⟨_,_,rfl,rfl,?_⟩⟩;have W8:=W7.out D8 o8;have g18:=aV W7.deal g17 nlr o8;have gk8:=aV W7.deal gk7 nkl o8;refine ⟨d,l,knc,kc,1+y,4,rfl,D8,gk8,nkl,by lia,by lia,by lia,by decide,fun t H9 D9 o9 h9 ok9 nm9 sz9 dp9=>⟨bJ,fun p hp=>?_⟩⟩;have oB:=o7;have W9:=W8.out D9 o9;have g19:=aV D8 g18 nlr o9;have gk9:=aV D8 gk8 nkl o9;have sA:=aA hp (.tup [.str "tell",.ref t.p]);have gA:aJ H9 p (.tup [.str "tell",.ref t.p]) p=some (.tup [.str "tell",.ref t.p]):=aC;have o79:hJ [d,l,sc] G' H9:=(hJ.out (sc:=sc) o8).trans (hJ.out (sc:=sc) o9);have hR9:=aX.ts (W7.ts o79) rs hR7;generalize aJ H9 p (.tup [.str "tell",.ref t.p])=HA at sA gA ⊢;refine ⟨lr,_,_,rfl,rfl,sA _ _ g19,sz,?_⟩;have W10:=(W9.same sA).lst (zs:=bG rs++[.ref p]) (sA _ _ g19) nlr nln;have tsN:=(TS.of sA).trans (TS.lst (ys:=bG rs++[.ref p]) (sA _ _ g19))
   have gR:aJ HA lr (.lst (bG rs++[.ref p])) lr=some (.lst (bG (rs++[.tell p t]))):=by rw [aC,kX];rfl
   have hpN:aJ HA lr (.lst (bG rs++[.ref p])) p=_:=TS.lst (sA _ _ g19) _ _ gA;have gkN:aJ HA lr (.lst (bG rs++[.ref p])) knc=_:=(aH nkr).trans (sA _ _ gk9);have oD:hJ [d,l,sc] H (aJ HA lr (.lst (bG rs++[.ref p]))):=(oB.trans (o79.trans (.of sA))).new hlr;have hRR:=aX.ts tsN rs hR9;refine hN _ _ ⟨rs++[.tell p t],_,rfl,W10,oD,gR,aX.app (qs:=[.tell p t]) hRR ⟨⟨hpN,h9.ts tsN,ok9,by lia⟩,trivial⟩,?_,gkN,nO.app (r:= .tell p t) (ks:=ks) hS ⟨rfl,nm9⟩,?_,⟨eB.app (qs:=[.tell p t]) hK.1 ⟨trivial,trivial⟩,lK hK.2 (av _)⟩⟩
   ·rw [cM];simp only [aP,Rw.cnt];lia
   ·rw [iE];simp only [cW,kU];lia
  ·rintro σ G' ⟨rs,v6,rfl,W7,o7,g17,hR7,hc,gk7,hS,hT,hK⟩;refine ⟨_,rfl,lr,_,rfl,.inl ⟨bI.of g17,fun t ht=>⟨_,rfl,bJ,fun p hp=>?_⟩⟩⟩;have sF:=(aA ht (.tup (bG rs))).trans (aA hp (.tup [.ref t,.ref knc]));exact k p t knc rs kc _ (W7.same sF) (o7.trans (.of sF)) aC ((aA hp _) _ _ aC) (aX.ts (.of sF) rs hR7) (by lia) hq nkl (sF _ _ gk7) ⟨hS,by lia,hK.1⟩ hK.2
theorem bE2 (C_Nms:Cl P w K mg base 2 spNames "_law_names") (C_Blk:Cl P w K mg base 16 (zN 3) "_law_block") (C_Draw:Cl P w K mg base 1 spDraw "_law_draw") (m_tuple:mg "tuple"=none) (m_range:mg "range"=none) (m_len:mg "len"=none):gN P w K mg base "_law_program" "_law_program" bO9 17 ["_law_deal_here","_law_most"] spPrg:=by
 refine iV ["_law_deal_here","_law_most","_law_many","_law_tells_here","_law_kinds","_law_names_here","_law_scene","_law_rows","_law_known"] fun H Q nd hr h=>?_
 obtain ⟨d,l,m,rfl,D,k⟩:=h;refine ⟨_,(eY 2 nd (aM bT aD (bW C_Draw hr (aB (pv 0) (aN aD))))
  (eY 3 nd (aM bT aD (bW C_Draw hr (aB (pv 0) (aN aD))))
  (eY 4 nd (bW C_Nms hr (aB (pv 0) (aN aD)))
  (eY 5 nd (bH tU (bV cY (bS (aB (pv 4) (aN (bW C_Nms hr (aB (pv 0) (aN aD)))))) (bW C_Draw hr (aB (pv 0) (aN aD)))) bQ (bO aD))
  (eY 6 nd (zZ (iY aG (pv 2) (iY aG (pv 5) (iY aG (aM dP (pv 1) (pv 3)) zJ))) rfl rfl (by decide) (by decide))
  (aE (fU (bW C_Blk hr (aB (pv 0) (aB (pv 6) (aB (bS cF) (aB (pv 3) (aN aD)))))) (eG rfl (aY (eO 7 nd) (aY (eO 8 nd) dN))))
  (aF (aU (aL (aB (xD cX m_tuple ee (aN (cQ ["_law_k","_law_kinds","_law_deal_here"] [none,some 4,some 0] (eZ (by rfl) m_range (aN (pv 2))) (fun _ _ _ _=>(eO 0)) (fun _ _ _ _=>eK) (fun _ _ _ _=>(bB6 K aj fb fc aN4 (pv 1) (aN (bW C_Draw hr (aB (pv 2) (aN (iK (bQ1 K) m_len bz (aN (pv 1)))))))))))) (aN (pv 7)))))))))))),?_⟩
 refine ⟨_,rfl,d,l,3,rfl,D,by decide,by decide,fun y1 H1 a0 a1 D1 o1=>⟨_,_,rfl,rfl,?_⟩⟩;refine ⟨_,rfl,d,l,4,rfl,D1,by decide,by decide,fun y2 H2 b0 b1 D2 o2=>⟨_,_,rfl,rfl,?_⟩⟩;refine ⟨_,rfl,d,l,9,rfl,D2,by decide,by decide,fun rk xk H3 D3 o3 fk hk3 lk3 ndk=>?_⟩;have nk:=(bZ D2 fk).2;have hk0:H rk=none:=lL D2 (o1.trans o2) fk;refine ⟨_,rfl,_,rfl,d,l,6,rfl,D3,by decide,by decide,fun rn xn H4 D4 o4 fn hn4 ln4 _=>⟨bJ,fun l5 hl5=>?_⟩⟩;have nn:=(bZ D3 fn).2;have nkn:rk≠rn:=aK hk3 fn;have hk4:=aV D3 hk3 nk o4;have n5:=(bZ D4 hl5).2;have n5k:rk≠l5:=aK hk4 hl5;obtain ⟨H5,e0,s5,h5⟩:=hV hl5 (.lst [.ref rk,.ref rn]);rw [e0];clear e0;have D5:=D4.same s5;refine ⟨_,rfl,d,l,2,rfl,D5,by decide,by decide,fun x H6 x0 x1 D6 o6=>?_⟩;have hk6:=aV D5 (s5 _ _ hk4) nk o6;have hn6:=aV D5 (s5 _ _ hn4) nn o6;have h56:=aV D5 h5 n5 o6;obtain ⟨rr,xr,ha,hr6,hl6⟩:∃ (rr:Addr) (xr:List Str),oK [V.ref rk,V.ref rn] x=some (.ref rr)/\H6 rr=some (.lst (xr.map V.str))/\6<=xr.length:=by
  have:x=0\/x=1:=by lia
  rcases this with rfl | rfl
  ·exact ⟨rk,xk,rfl,hk6,by lia⟩
  ·exact ⟨rn,xn,rfl,hn6,by lia⟩
 refine ⟨l5,_,_,.ref rr,rfl,rfl,bI.of h56,ha,6,rfl,rr,_,rfl,bI.of hr6,fun nl hnl=>?_⟩;obtain ⟨ys,ey,ly⟩:=bY1 hl6;rw [ey];have nnl:=(bZ D6 hnl).2;have nnk:nl≠rk:=(aK hk6 hnl).symm;have oA:=o1.trans (o2.trans (o3.trans (o4.trans ((dZ.of (d:=d) (l:=l) s5).trans o6))));obtain ⟨H7,e0,s7,h7⟩:=hV hnl (.lst (ys.map V.str));rw [e0];clear e0;have D7:=D6.same s7;have o7:=oA.trans (dZ.of (d:=d) (l:=l) s7);refine fun sc hsc=>⟨_,rfl,_,rfl,_,rfl,_,rfl,_,_,rfl,rfl,aC,dX (1+y1) nl (m - (1+y2)),rfl,by show 3<=15;decide,?_⟩
 rw [vX,aT0];have sc0:H sc=none:=lL D7 o7 hsc;have nsd:=(bZ D7 hsc).1;obtain ⟨H8,e0,s8,h8⟩:=hV hsc (.dK (dX (1+y1) nl (m - (1+y2))));rw [e0];clear e0;have o8:=o7.trans (dZ.of (d:=d) (l:=l) s8);refine ⟨_,rfl,_,rfl,av _,fun kn hkn=>?_⟩;have nkl:=(bZ (D7.same s8) hkn).2;have s9:=aA hkn (.lst []);have h9:aJ H8 kn (.lst []) kn=some (.lst ([].map V.str)):=aC;generalize aJ H8 kn (.lst [])=H9 at s9 h9 ⊢;have o9:=o8.trans (dZ.of (d:=d) (l:=l) s9);have W9:Wd H9 d l sc nl (1+y1) ys:=⟨(D7.same s8).same s9,⟨_,s9 _ _ h8⟩,(s8.trans s9) _ _ h7,nsd,nnl,by lia,by lia,by lia,by lia⟩
 refine ⟨_,rfl,d,l,sc,nl,kn,1+y1,ys,[],1+y2,0,rfl,W9,h9,nkl,by decide,by lia,by lia,by decide,by decide,fun pA prA knA rsA kA HA WA oA' hA hpA hrA cA qA nA hkA bA dpA=>?_⟩;refine ⟨pA,_,rfl,aQ.of hA,rfl,_,_,rfl,_,_,rfl,rfl,?_⟩;have hkA9:=W9.keep ((s7.trans (s8.trans s9)) _ _ hk6) nk oA';have oB:=aT8 o9 sc0 oA';refine ⟨_,rfl,1+y1,rfl,by lia,by lia,jF (n:=(1+y1).toNat) (fun i vs σ G=>cS G d l/\dZ d l H G/\TS HA G/\(∃ v,σ=[v,some (.ref rk),some (.ref d)])/\∃ zs ws:List Str,vs=ws.map V.str/\ws.length=i/\G rk=some (.lst (zs.map V.str))/\zs.length+i=9/\(ws++zs).Nodup)
  (bL (by lia)) ⟨WA.deal,oB,fun _ _ e=>e,⟨_,rfl⟩,xk,[],rfl,rfl,hkA9,by lia,ndk⟩ (by rintro i vs σ G ⟨_,_,_,_,zs,ws,e,e2,_⟩;rw [e,aa];lia) ?_ ?_⟩
 ·rintro i vs σ G hi ⟨DB,oC,tB,⟨v,rfl⟩,zs,ws,rfl,hw,hz,hl,nd⟩;refine ⟨_,rfl,.inl ⟨rfl,_,bI.of hz⟩,_,rfl,_,rfl,rk,_,rfl,.inl (bI.of hz),d,l,_,rfl,DB,by rw [aa];lia,by rw [aa];lia,fun z HC z0 z1 DC oC2=>?_⟩;have hzC:=aV DB hz nk oC2;obtain ⟨v,hv,_⟩:=eV z0 z1;obtain ⟨w,rfl,hw2⟩:=eT hv;have zl:=z1;rw [aa] at zl;refine ⟨rk,_,z,z.toNat,.str w,rfl,rfl,hzC,by (exact oqb),by lia,bV3 z0 z1,hv,?_⟩;rw [pP];refine ⟨pX DC hzC nk,uN (oC.trans oC2) hk0,tB.trans ((TS.out DB oC2).trans (TS.lst hzC)),⟨_,rfl⟩,zs.eraseIdx z.toNat,ws++[w],by rw [bg];rfl,by rw [ak,hw];rfl,aC,?_,aE8 nd hw2⟩;rw [List.length_eraseIdx_of_lt (by lia)]
  lia
 ·rintro vs σ G ⟨DB,oC,tB,_,zs,ws,rfl,hw,hz,hl,nd⟩ lx hlx;refine ⟨lx,_,rfl,.inl ⟨bI.of aC,fun tk htk=>⟨_,rfl,bJ,fun p hp=>?_⟩⟩⟩;have sF:=(aA hlx (.lst (ws.map V.str))).trans ((aA htk (.tup (ws.map V.str))).trans (aA hp (.tup [.ref tk,.ref prA])));have tF:=tB.trans (.of sF);refine k p ws rsA kA (1+y2) _ (DB.same sF) (oC.trans (.of sF)) ⟨⟨tk,prA,aC,(aA hp _) _ _ aC,tF _ _ hpA⟩,aX.ts tF rsA hrA,cj cA (by decide),bA.sc,bA.tl,bA.tk,by lia,by lia,by lia,(mq.mp nd).1⟩ (cj cA (by decide)) (by lia) dpA
theorem bI4 (m_len:mg "len"=none):gN P w K mg base "_law_sum_by" "_law_sum_by" bP9 1 ["_law_some","_law_many"] spSumBy:=by
 refine iV ["_law_some","_law_many"] fun H Q nd hr h=>?_
 obtain ⟨v,m,rfl,hv,h0,h1,k⟩:=h;refine ⟨_,(aF (aU (aM cI (bH bY (pv 0) bQ (bO (pv 1))) (aM aR6 (aL (aN aD)) (aM dP (pv 1) (iK aW m_len bz (aN (pv 0)))))))),?_⟩;obtain ⟨p,us,rfl,hp,hl⟩:=hv;refine ⟨_,rfl,_,rfl,m,rfl,p,us,rfl,hp,fun r1 H1 s1 g1=>?_⟩;have cl:=gK us none (some m);have cm:((fE us none (some m)).length:Int)<=m:=by
  obtain ⟨n,rfl⟩:=Int.eq_ofNat_of_zero_le h0;rw [pI,cv]
  lia
 refine ⟨eQ,fun t ht=>?_⟩;obtain ⟨H2,e0,s2,g2⟩:=hV ht (.tup [.int 0]);rw [e0];clear e0;have s12:=s1.trans s2;refine ⟨_,rfl,_,rfl,p,us,rfl,.inr (aQ.of (s12 _ _ hp)),_,_,rfl,rfl,t,_,_,rfl,rfl,g2,by lia,by lia,fun r3 H3 s3 g3=>?_⟩;refine ⟨r1,r3,_,_,rfl,rfl,s3 _ _ (s2 _ _ g1),g3,bu (cE (by rw [jw];lia)),fun r4 H4 s4 g4=>k _ H4 (s12.trans (s3.trans s4)) ⟨r4,_,rfl,g4,?_⟩⟩;rw [ak,jw]
 lia
theorem bE8 (n:Nat) (C_SmB:Cl P w K mg base 1 spSumBy "_law_sum_by") (C_RwB:Cl P w K mg base (n+1) (pH n) "_law_row_by") (m_tuple:mg "tuple"=none) (m_int:mg "int"=none):gN P w K mg base "_law_row_by" "_law_row_by" bM3 (n+1+1) ["_law_row","_law_many"] (pH (n+1)):=by
 refine iV ["_law_row","_law_many","_law_at","_law_sums"] fun H Q nd hr h=>?_
 obtain ⟨r,m,rfl,hr0,ht,hc,hd,h0,h1,k⟩:=h;have hu:=lR hr;refine ⟨_,(aE (bE (dM cU (bV aI (pv 0) aD) (aL (aB aG (aN aG)))) (aF (aU (aM cI (aM cI (bH bY (pv 0) bQ (bO aD)) (aL (aN (bW C_SmB hr (aB (bV aI (pv 0) aD) (aN (pv 1))))))) (bH bY (pv 0) (bO aD) bQ)))) aO)
  (aE (bE (dM cU (bV aI (pv 0) aD) (aL (aB aG (aN aG)))) (eY 2 nd (bV cY (bS (aB aD (aN aD))) (xD kY m_int jb (aN (zU bP (bV aI (pv 0) aD) aG))))
  (eY 3 nd (xD cX m_tuple ee (aN (cQ ["_law_one","_law_many"] [none,some 1] (mC (bV aI (pv 0) (pv 2))) (fun _ _ _ _=>(eO 0)) (fun _ _ _ _=>eK) (fun _ _ _ _=>(bW C_SmB hr (aB (pv 0) (aN (pv 1))))))))
  (aF (aU (aM cI (aM cI (bH bY (pv 0) bQ (bO (pv 2))) (aL (aN (pv 3)))) (bH bY (pv 0) (bO (aM bT (pv 2) aD)) bQ)))))) aO)
  (aE (bE (dM cU (bV aI (pv 0) aD) (aL (aB aG (aN aG)))) (aF (aU (aM cI (bH bY (pv 0) bQ (bO aD)) (xD cX m_tuple ee (aN (cQ ["_law_block_here","_law_many"] [none,some 1] (mC (bH bY (pv 0) (bO aD) bQ)) (fun _ _ _ _=>(eO 0)) (fun _ _ _ _=>eK) (fun _ _ _ _=>(xD (aY6 K) m_tuple ee (aN (cQ ["_law_one","_law_many"] [none,some 1] (bW3 K (pv 0)) (fun _ _ _ _=>(eO 0)) (fun _ _ _ _=>eK) (fun _ _ _ _=>(bW C_RwB hr (aB (pv 0) (aN (pv 1))))))))))))))) aO)
  (aF (aU (pv 0)))))),?_⟩
 generalize hP:r.p=P
 cases r with
 |thr p w x us am =>
  obtain rfl:p=P:=hP;rcases hr0.2 with ⟨mw,a,b,lo,hi,rfl,sm,rfl⟩ | ⟨rfl,a,b,lo,hi,rfl,sm,rfl⟩ | ⟨rfl,mark,a,q,c,lo,hi,x',y',rfl,hq,sm,x0,x1,rfl⟩
  ·have hp:=hr0.1;refine ⟨_,rfl,p,_,_,.str w,rfl,rfl,aQ.of hp,fL,bJ,fun t2 ht2=>?_⟩;obtain ⟨H0,e0,s0,gt2⟩:=hV ht2 (.tup [.str "ladder",.str "flat"]);rw [e0];clear e0;refine ⟨t2,[.str "ladder",.str "flat"],rfl,.inr (aQ.of gt2),rfl,by decide,_,rfl,?_⟩;have ei:oM (V.str w) ((["ladder","flat"]:List Str).map V.str)=decide (w∈(["ladder","flat"]:List Str)):=dL _ _;refine bD (ei.trans (af mw)) ?_;replace hp:=s0 _ _ hp;replace sm:=sm.ts (.of s0);refine ⟨_,rfl,2,rfl,p,_,rfl,hp,fun r1 H1 s1 g1=>?_⟩;have g1:H1 r1=some (.tup [.str w,.str x]):=g1;refine ⟨_,rfl,p,_,_,a,rfl,rfl,aQ.of (s1 _ _ hp),rfl,_,rfl,a,m,rfl,sm.ts (.of s1),h0,h1,fun u H2 s2 sm2=>?_⟩;refine ⟨eQ,fun t ht=>?_⟩;have s3:=s2.trans (aA ht (.tup [u]));refine ⟨r1,t,_,_,rfl,rfl,s3 _ _ g1,aC,by show 3<=sizeLine;decide,fun r4 H4 s4 g4=>?_⟩;have sm4:=(sm2.ts (.of (aA ht (.tup [u])))).ts (.of s4);have s14:=s1.trans (s3.trans s4);clear sm2 s3
   refine ⟨_,rfl,3,rfl,p,_,rfl,s14 _ _ hp,fun r5 H5 s5 g5=>?_⟩;have g5:H5 r5=some (.tup [b,.int lo,.int hi]):=g5;refine ⟨r4,r5,_,_,rfl,rfl,s5 _ _ g4,g5,by show 6<=sizeLine;decide,fun r6 H6 s6 g6=>?_⟩;exact k (.thr r6 w x [u,b,.int lo,.int hi] _) H6 (s0.trans (s14.trans (s5.trans s6))) ⟨g6,.inl ⟨mw,u,b,lo,hi,rfl,(sm4.ts (.of s5)).ts (.of s6),rfl⟩⟩ trivial rfl rfl
  ·have hp:=hr0.1;refine ⟨_,rfl,p,_,_,.str "choose",rfl,rfl,aQ.of hp,rfl,bJ,fun t1 ht1=>?_⟩;obtain ⟨H1,e0,sa,gt1⟩:=hV ht1 (.tup [.str "ladder",.str "flat"]);rw [e0];clear e0;refine ⟨t1,[.str "ladder",.str "flat"],rfl,.inr (aQ.of gt1),rfl,by decide,_,rfl,?_⟩;refine aR (by decide +kernel) ?_;replace hp:=sa _ _ hp;refine ⟨_,rfl,p,_,_,.str "choose",rfl,rfl,aQ.of hp,rfl,bJ,fun t2 ht2=>?_⟩;obtain ⟨H2,e0,sb,gt2⟩:=hV ht2 (.tup [.str "choose",.str "first"]);rw [e0];clear e0;refine ⟨t2,[.str "choose",.str "first"],rfl,.inr (aQ.of gt2),rfl,by decide,_,rfl,?_⟩;refine bD (by decide +kernel) ?_;have s2:=sa.trans sb;replace hp:=sb _ _ hp;refine ⟨bJ,fun l3 hl3=>?_⟩;have s3:=s2.trans (aA hl3 (.lst [.int 2,.int 5]));replace hp:=(aA hl3 (.lst [.int 2,.int 5])) _ _ hp;have g3:aJ H2 l3 (.lst [.int 2,.int 5]) l3=some (.lst [.int 2,.int 5]):=aC;generalize aJ H2 l3 (.lst [.int 2,.int 5])=H3 at s3 hp g3 ⊢;refine ⟨_,rfl,p,_,_,.str "choose",rfl,rfl,aQ.of hp,rfl,rfl,.inr ⟨_,rfl,l3,_,_,.int 2,rfl,rfl,bI.of g3,by rw [ar (by decide +kernel)];rfl,?_⟩⟩
   obtain ⟨q0,vs,rfl,hq0,hl0,hS⟩:=sm.ts (.of s3);refine ⟨_,rfl,_,rfl,p,_,_,.ref q0,rfl,rfl,aQ.of hp,rfl,q0,rfl,⟨_,aQ.of hq0⟩,gL (K:=K) (a:=q0) (xs:=vs) (fun i ys σ G=>bB H3 G/\(∃ v,σ=[v,some (.int m)])/\ys.length=i/\∀ u∈ys,Sm G u)
    (cE (by (exact oqf))) ⟨bB.refl _,⟨_,rfl⟩,rfl,fun _ z=>absurd z dj⟩ (by rintro i ys σ G ⟨_,_,e,_⟩;lia) (by rintro i ys σ G _ ⟨e,_⟩;exact aQ.of (e _ _ hq0)) ?_ ?_⟩
   ·rintro i v ys σ G hv ⟨s4,⟨v',rfl⟩,hl,hY⟩;refine ⟨_,rfl,_,rfl,v,m,rfl,(hS v (ap hv)).ts (.of s4),h0,h1,fun u G2 s5 su=>⟨s4.trans s5,⟨_,rfl⟩,by rw [ak,hl];rfl,fun z hz=>?_⟩⟩;rcases du.mp hz with e | e
    ·exact (hY z e).ts (.of s5)
    ·rw [dq.mp e];exact su
   rintro ys σ G ⟨s4,_,hl,hY⟩ l5 hl5;have s5:=s4.trans (aA hl5 (.lst ys));have g5:aJ G l5 (.lst ys) l5=some (.lst ys):=aC;have hY5:∀ u∈ys,Sm (aJ G l5 (.lst ys)) u:=fun u hu=>(hY u hu).ts (.of (aA hl5 (.lst ys)))
   generalize aJ G l5 (.lst ys)=H5 at s5 g5 hY5 ⊢;refine ⟨l5,_,rfl,.inl ⟨bI.of g5,fun t6 ht6=>?_⟩⟩;have s6:=s5.trans (aA ht6 (.tup ys));have sms:Sms (aJ H5 t6 (.tup ys)) (.ref t6):=⟨t6,ys,rfl,aC,by (exact oqo),fun u hu=>(hY5 u hu).ts (.of (aA ht6 (.tup ys)))⟩
   generalize aJ H5 t6 (.tup ys)=H6 at s6 sms ⊢;replace hp:=s6 _ _ hp;refine ⟨_,rfl,_,rfl,2,rfl,p,_,rfl,hp,fun r7 H7 s7 g7=>?_⟩;have g7:H7 r7=some (.tup [.str "choose",.str x]):=g7;refine ⟨_,rfl,eQ,fun t8 ht8=>?_⟩;refine ⟨r7,t8,_,_,rfl,rfl,(aA ht8 (.tup [.ref t6])) _ _ g7,aC,by show 3<=sizeLine;decide,fun r9 H9 s9 g9=>?_⟩;have s79:=s7.trans ((aA ht8 (.tup [.ref t6])).trans s9);refine ⟨_,rfl,_,rfl,_,_,rfl,rfl,3,rfl,p,_,rfl,s79 _ _ hp,fun rA HA sA gA=>?_⟩;have gA:HA rA=some (.tup [b,.int lo,.int hi]):=gA;refine ⟨r9,rA,_,_,rfl,rfl,sA _ _ g9,gA,by show 6<=sizeLine;decide,fun rB HB sB gB=>?_⟩;have sF:=s79.trans (sA.trans sB);exact k (.thr rB "choose" x [.ref t6,b,.int lo,.int hi] _) HB (s3.trans (s6.trans sF)) ⟨gB,.inr (.inl ⟨rfl,_,b,lo,hi,rfl,sms.ts (.of sF),rfl⟩)⟩ trivial rfl rfl
  ·have hp:=hr0.1;refine ⟨_,rfl,p,_,_,.str "first",rfl,rfl,aQ.of hp,rfl,bJ,fun t1 ht1=>?_⟩;obtain ⟨H1,e0,sa,gt1⟩:=hV ht1 (.tup [.str "ladder",.str "flat"]);rw [e0];clear e0;refine ⟨t1,[.str "ladder",.str "flat"],rfl,.inr (aQ.of gt1),rfl,by decide,_,rfl,?_⟩;refine aR (by decide +kernel) ?_;replace hp:=sa _ _ hp;refine ⟨_,rfl,p,_,_,.str "first",rfl,rfl,aQ.of hp,rfl,bJ,fun t2 ht2=>?_⟩;obtain ⟨H2,e0,sb,gt2⟩:=hV ht2 (.tup [.str "choose",.str "first"]);rw [e0];clear e0;refine ⟨t2,[.str "choose",.str "first"],rfl,.inr (aQ.of gt2),rfl,by decide,_,rfl,?_⟩;refine bD (by decide +kernel) ?_;have s2:=sa.trans sb;replace hp:=sb _ _ hp;refine ⟨bJ,fun l3 hl3=>?_⟩;have s3:=s2.trans (aA hl3 (.lst [.int 2,.int 5]));replace hp:=(aA hl3 (.lst [.int 2,.int 5])) _ _ hp;have g3:aJ H2 l3 (.lst [.int 2,.int 5]) l3=some (.lst [.int 2,.int 5]):=aC;generalize aJ H2 l3 (.lst [.int 2,.int 5])=H3 at s3 hp g3 ⊢;refine ⟨_,rfl,p,_,_,.str "first",rfl,rfl,aQ.of hp,rfl,rfl,.inr ⟨_,rfl,l3,_,_,.int 5,rfl,rfl,bI.of g3,by rw [bc (by decide +kernel)];rfl,?_⟩⟩
   obtain ⟨q0,vs,rfl,hq0,hl0,hS⟩:=sm.ts (.of s3);refine ⟨_,rfl,_,rfl,p,_,_,.ref q0,rfl,rfl,aQ.of hp,rfl,q0,rfl,⟨_,aQ.of hq0⟩,gL (K:=K) (a:=q0) (xs:=vs) (fun i ys σ G=>bB H3 G/\(∃ v,σ=[v,some (.int m)])/\ys.length=i/\∀ u∈ys,Sm G u)
    (cE (by (exact oqf))) ⟨bB.refl _,⟨_,rfl⟩,rfl,fun _ z=>absurd z dj⟩ (by rintro i ys σ G ⟨_,_,e,_⟩;lia) (by rintro i ys σ G _ ⟨e,_⟩;exact aQ.of (e _ _ hq0)) ?_ ?_⟩
   ·rintro i v ys σ G hv ⟨s4,⟨v',rfl⟩,hl,hY⟩;refine ⟨_,rfl,_,rfl,v,m,rfl,(hS v (ap hv)).ts (.of s4),h0,h1,fun u G2 s5 su=>⟨s4.trans s5,⟨_,rfl⟩,by rw [ak,hl];rfl,fun z hz=>?_⟩⟩;rcases du.mp hz with e | e
    ·exact (hY z e).ts (.of s5)
    ·rw [dq.mp e];exact su
   rintro ys σ G ⟨s4,_,hl,hY⟩ l5 hl5;have s5:=s4.trans (aA hl5 (.lst ys));have g5:aJ G l5 (.lst ys) l5=some (.lst ys):=aC;have hY5:∀ u∈ys,Sm (aJ G l5 (.lst ys)) u:=fun u hu=>(hY u hu).ts (.of (aA hl5 (.lst ys)))
   generalize aJ G l5 (.lst ys)=H5 at s5 g5 hY5 ⊢;refine ⟨l5,_,rfl,.inl ⟨bI.of g5,fun t6 ht6=>?_⟩⟩;have s6:=s5.trans (aA ht6 (.tup ys));have sms:Sms (aJ H5 t6 (.tup ys)) (.ref t6):=⟨t6,ys,rfl,aC,by (exact oqo),fun u hu=>(hY5 u hu).ts (.of (aA ht6 (.tup ys)))⟩
   generalize aJ H5 t6 (.tup ys)=H6 at s6 sms ⊢;replace hp:=s6 _ _ hp;refine ⟨_,rfl,_,rfl,5,rfl,p,_,rfl,hp,fun r7 H7 s7 g7=>?_⟩;have g7:H7 r7=some (.tup [.str "first",.str x,.int mark,a,.ref q]):=g7;refine ⟨_,rfl,eQ,fun t8 ht8=>?_⟩;refine ⟨r7,t8,_,_,rfl,rfl,(aA ht8 (.tup [.ref t6])) _ _ g7,aC,by show 6<=sizeLine;decide,fun r9 H9 s9 g9=>?_⟩;have s79:=s7.trans ((aA ht8 (.tup [.ref t6])).trans s9);refine ⟨_,rfl,_,rfl,_,_,rfl,rfl,6,rfl,p,_,rfl,s79 _ _ hp,fun rA HA sA gA=>?_⟩;have gA:HA rA=some (.tup [.int lo,.int hi]):=gA;refine ⟨r9,rA,_,_,rfl,rfl,sA _ _ g9,gA,by show 8<=sizeLine;decide,fun rB HB sB gB=>?_⟩;have sF:=s79.trans (sA.trans sB);exact k (.thr rB "first" x [.int mark,a,.ref q,.ref t6,.int lo,.int hi] _) HB (s3.trans (s6.trans sF)) ⟨gB,(.inr (.inr ⟨rfl,mark,a,q,_,lo,hi,x',y',rfl,(s3.trans (s6.trans sF)) _ _ hq,sms.ts (.of sF),x0,x1,rfl⟩))⟩ trivial rfl rfl
 |when p pa pb t a b =>
  obtain rfl:p=P:=hP;obtain ⟨hp,tm,tf,ha,hb,ra,rb⟩:=hr0;refine ⟨_,rfl,p,_,_,.str "when",rfl,rfl,aQ.of hp,rfl,bJ,fun t1 ht1=>?_⟩;obtain ⟨H1,e0,sa,gt1⟩:=hV ht1 (.tup [.str "ladder",.str "flat"]);rw [e0];clear e0;refine ⟨t1,[.str "ladder",.str "flat"],rfl,.inr (aQ.of gt1),rfl,by decide,_,rfl,?_⟩;refine aR (by decide +kernel) ?_;replace hp:=sa _ _ hp;refine ⟨_,rfl,p,_,_,.str "when",rfl,rfl,aQ.of hp,rfl,bJ,fun t2 ht2=>?_⟩;obtain ⟨H2,e0,sb,gt2⟩:=hV ht2 (.tup [.str "choose",.str "first"]);rw [e0];clear e0;refine ⟨t2,[.str "choose",.str "first"],rfl,.inr (aQ.of gt2),rfl,by decide,_,rfl,?_⟩;refine aR (by decide +kernel) ?_;have s2:=sa.trans sb;replace hp:=sb _ _ hp;refine ⟨_,rfl,p,_,_,.str "when",rfl,rfl,aQ.of hp,rfl,bJ,fun t3 ht3=>?_⟩;obtain ⟨H3,e0,s3,gt3⟩:=hV ht3 (.tup [.str "when",.str "times"]);rw [e0];clear e0;refine ⟨t3,[.str "when",.str "times"],rfl,.inr (aQ.of gt3),rfl,by decide,_,rfl,?_⟩
  refine bD (by decide +kernel) ?_;replace hp:=s3 _ _ hp;refine ⟨_,rfl,2,rfl,p,_,rfl,hp,fun r4 H4 s4 g4=>?_⟩;have g4:H4 r4=some (.tup [.str "when",.ref t.p]):=g4;refine ⟨_,rfl,2,rfl,p,_,rfl,s4 _ _ hp,fun r5 H5 s5 g5=>?_⟩;have g5:H5 r5=some (.tup [.ref pa,.ref pb]):=g5;have sA:=s2.trans (s3.trans (s4.trans s5));have hB:∀ (i:Nat) (v:V),([.ref pa,.ref pb]:List V)[i]?=some v->∃ (q:Addr) (c:List Rw),([a,b]:List (List Rw))[i]?=some c/\v= .ref q/\H5 q=some (.tup (bG c))/\aX H5 c/\dQ c/\aP c<=8000/\dI c+1<=n:=by
   intro i v hv
   match i,hv with
   |0,hv =>
    cases hv
    exact ⟨pa,a,rfl,rfl,sA _ _ ha,aX.ts (.of sA) a ra,ht.1,by simp only [Rw.cnt] at hc;lia,by simp only [Rw.dp] at hd;lia⟩
   |1,hv =>
    cases hv
    exact ⟨pb,b,rfl,rfl,sA _ _ hb,aX.ts (.of sA) b rb,ht.2,by simp only [Rw.cnt] at hc;lia,by simp only [Rw.dp] at hd;lia⟩
   |i+2,hv=>cases hv
  clear hc hd;refine ⟨r5,rfl,⟨_,aQ.of g5⟩,gL (K:=K) (a:=r5) (xs:=[.ref pa,.ref pb]) (fun i ys σ G=>bB H5 G/\(∃ v,σ=[v,some (.int m)])/\eL (nQ G) ys (([a,b]:List (List Rw)).take i))
   (by show 2 < sizeLine;decide) ⟨bB.refl _,⟨_,rfl⟩,trivial⟩ (by rintro i ys σ G ⟨_,_,e⟩;rw [e.length,cv];lia) (by rintro i ys σ G _ ⟨e,_⟩;exact aQ.of (e _ _ g5)) ?_ ?_⟩
  ·rintro i v ys σ G hv ⟨s6,⟨v',rfl⟩,tw⟩;obtain ⟨q,c,hci,rfl,hq,hR,hT,hC,hD⟩:=hB i v hv;have rl:=eI c;have hq6:=s6 _ _ hq;rw [bK hci];refine ⟨_,rfl,q,rfl,⟨_,aQ.of hq6⟩,gL (K:=K) (a:=q) (xs:=bG c) (fun i zs σ G2=>bB G G2/\(∃ v,σ=[v,some (.int m)])/\∃ ds:List Rw,zs=bG ds/\ds.length=i/\aX G2 ds/\dQ ds/\aP ds=aP (c.take i)/\dI ds=dI (c.take i))
    (cE (by rw [bU];lia)) ⟨bB.refl _,⟨_,rfl⟩,[],rfl,rfl,trivial,trivial,rfl,rfl⟩ (by rintro i ys σ G ⟨_,_,ds,e,e2,_⟩;rw [e,bU];lia) (by rintro i ys σ G _ ⟨e,_⟩;exact aQ.of (e _ _ hq6)) ?_ ?_⟩
   ·rintro j v zs σ G2 hv ⟨s7,⟨v'',rfl⟩,ds,rfl,dl,dR,dT,dC,dD⟩;obtain ⟨r0,rfl,hr0⟩:=iM hv;have mr:=ap hr0;have c0:=fQ mr;have d0:=fW mr
    cases n with
    |zero=>exact absurd hD (by lia)
    |succ n =>
    refine ⟨_,rfl,_,rfl,r0,m,rfl,cJ.ts (.of (s6.trans s7)) r0 (hR.mem r0 mr),hT.mem mr,by (exact oqj),by lia,h0,h1,fun r' G3 s8 h8 t8 e8 f8=>⟨s7.trans s8,⟨_,rfl⟩,ds++[r'],(hI ds [r']).symm,by rw [ak,dl];rfl,(aX.ts (.of s8) ds dR).app ⟨h8,trivial⟩,dT.app ⟨t8,trivial⟩,?_,?_⟩⟩
    ·rw [bK hr0,cM,cM,dC];simp only [aP,e8]
    ·rw [bK hr0,gU,gU,dD];simp only [dI,f8]
   rintro zs σ G2 ⟨s7,_,ds,rfl,dl,dR,dT,dC,dD⟩ l8 hl8;have s8:=s7.trans (aA hl8 (.lst (bG ds)));have g8:aJ G2 l8 (.lst (bG ds)) l8=some (.lst (bG ds)):=aC;have dR8:=aX.ts (.of (aA hl8 (.lst (bG ds)))) ds dR;generalize aJ G2 l8 (.lst (bG ds))=G8 at s8 g8 dR8 ⊢;refine ⟨l8,_,rfl,.inl ⟨bI.of g8,fun t9 ht9=>?_⟩⟩;have s9:=aA ht9 (.tup (bG ds));refine ⟨s6.trans (s8.trans s9),⟨_,rfl⟩,eL.append (tw.mono fun _ _ z=>nQ.ts (.of (s8.trans s9)) z) ⟨⟨t9,ds,rfl,aC,aX.ts (.of s9) ds dR8,dT,?_,?_⟩,trivial⟩⟩
   ·rw [dC,bU,ci]
   ·rw [dD,bU,ci]
  rintro ys σ G ⟨s6,_,tw⟩ l7 hl7;have tw:eL (nQ G) ys [a,b]:=tw;have s7:=s6.trans (aA hl7 (.lst ys));have g7:aJ G l7 (.lst ys) l7=some (.lst ys):=aC;replace tw:=tw.mono fun _ _ z=>nQ.ts (.of (aA hl7 (.lst ys))) z
  generalize aJ G l7 (.lst ys)=H7 at s7 g7 tw ⊢;refine ⟨l7,_,rfl,.inl ⟨bI.of g7,fun t8 ht8=>?_⟩⟩;have s8:=s7.trans (aA ht8 (.tup ys));have g8:aJ H7 t8 (.tup ys) t8=some (.tup ys):=aC;replace tw:=tw.mono fun _ _ z=>nQ.ts (.of (aA ht8 (.tup ys))) z
  generalize aJ H7 t8 (.tup ys)=H8 at s8 g8 tw ⊢;obtain ⟨v1,v2,rfl,⟨qa,as,rfl,ga,Ra,Ta,Ca,Da⟩,⟨qb,bs,rfl,gb,Rb,Tb,Cb,Db⟩⟩:=bW7 tw;refine ⟨r4,t8,_,_,rfl,rfl,(s5.trans s8) _ _ g4,g8,by show 4<=sizeLine;decide,fun r9 H9 s9 g9=>?_⟩;have s59:=s8.trans s9;have sF:=sA.trans s59;exact k (.when r9 qa qb t as bs) H9 sF ⟨g9,tm.ts (.of sF),tf,s9 _ _ ga,s9 _ _ gb,aX.ts (.of s9) as Ra,aX.ts (.of s9) bs Rb⟩ ⟨Ta,Tb⟩ (by simp only [Rw.cnt,Ca,Cb]) (by simp only [Rw.dp,Da,Db])
 |times p pb nn b =>
  obtain rfl:p=P:=hP;obtain ⟨hp,hb,rb⟩:=hr0;refine ⟨_,rfl,p,_,_,.str "times",rfl,rfl,aQ.of hp,rfl,bJ,fun t1 ht1=>?_⟩;obtain ⟨H1,e0,sa,gt1⟩:=hV ht1 (.tup [.str "ladder",.str "flat"]);rw [e0];clear e0;refine ⟨t1,[.str "ladder",.str "flat"],rfl,.inr (aQ.of gt1),rfl,by decide,_,rfl,?_⟩;refine aR (by decide +kernel) ?_;replace hp:=sa _ _ hp;refine ⟨_,rfl,p,_,_,.str "times",rfl,rfl,aQ.of hp,rfl,bJ,fun t2 ht2=>?_⟩;obtain ⟨H2,e0,sb,gt2⟩:=hV ht2 (.tup [.str "choose",.str "first"]);rw [e0];clear e0;refine ⟨t2,[.str "choose",.str "first"],rfl,.inr (aQ.of gt2),rfl,by decide,_,rfl,?_⟩;refine aR (by decide +kernel) ?_;have s2:=sa.trans sb;replace hp:=sb _ _ hp;refine ⟨_,rfl,p,_,_,.str "times",rfl,rfl,aQ.of hp,rfl,bJ,fun t3 ht3=>?_⟩;obtain ⟨H3,e0,s3,gt3⟩:=hV ht3 (.tup [.str "when",.str "times"]);rw [e0];clear e0;refine ⟨t3,[.str "when",.str "times"],rfl,.inr (aQ.of gt3),rfl,by decide,_,rfl,?_⟩;refine bD (by decide +kernel) ?_
  replace hp:=s3 _ _ hp;refine ⟨_,rfl,2,rfl,p,_,rfl,hp,fun r4 H4 s4 g4=>?_⟩;have g4:H4 r4=some (.tup [.str "times",.int nn]):=g4;refine ⟨_,rfl,2,rfl,p,_,rfl,s4 _ _ hp,fun r5 H5 s5 g5=>?_⟩;have g5:H5 r5=some (.tup [.ref pb]):=g5;have sA:=s2.trans (s3.trans (s4.trans s5));have hB:∀ (i:Nat) (v:V),([.ref pb]:List V)[i]?=some v->∃ (q:Addr) (c:List Rw),([b]:List (List Rw))[i]?=some c/\v= .ref q/\H5 q=some (.tup (bG c))/\aX H5 c/\dQ c/\aP c<=8000/\dI c+1<=n:=by
   intro i v hv
   match i,hv with
   |0,hv =>
    cases hv
    exact ⟨pb,b,rfl,rfl,sA _ _ hb,aX.ts (.of sA) b rb,ht.2.2,by simp only [Rw.cnt] at hc;(exact oqD),by simp only [Rw.dp] at hd;lia⟩
   |i+1,hv=>cases hv
  clear hc hd;refine ⟨r5,rfl,⟨_,aQ.of g5⟩,gL (K:=K) (a:=r5) (xs:=[.ref pb]) (fun i ys σ G=>bB H5 G/\(∃ v,σ=[v,some (.int m)])/\eL (nQ G) ys (([b]:List (List Rw)).take i))
   (by show 1 < sizeLine;decide) ⟨bB.refl _,⟨_,rfl⟩,trivial⟩ (by rintro i ys σ G ⟨_,_,e⟩;rw [e.length,cv];lia) (by rintro i ys σ G _ ⟨e,_⟩;exact aQ.of (e _ _ g5)) ?_ ?_⟩
  ·rintro i v ys σ G hv ⟨s6,⟨v',rfl⟩,tw⟩;obtain ⟨q,c,hci,rfl,hq,hR,hT,hC,hD⟩:=hB i v hv;have rl:=eI c;have hq6:=s6 _ _ hq;rw [bK hci];refine ⟨_,rfl,q,rfl,⟨_,aQ.of hq6⟩,gL (K:=K) (a:=q) (xs:=bG c) (fun i zs σ G2=>bB G G2/\(∃ v,σ=[v,some (.int m)])/\∃ ds:List Rw,zs=bG ds/\ds.length=i/\aX G2 ds/\dQ ds/\aP ds=aP (c.take i)/\dI ds=dI (c.take i))
    (cE (by rw [bU];lia)) ⟨bB.refl _,⟨_,rfl⟩,[],rfl,rfl,trivial,trivial,rfl,rfl⟩ (by rintro i ys σ G ⟨_,_,ds,e,e2,_⟩;rw [e,bU];lia) (by rintro i ys σ G _ ⟨e,_⟩;exact aQ.of (e _ _ hq6)) ?_ ?_⟩
   ·rintro j v zs σ G2 hv ⟨s7,⟨v'',rfl⟩,ds,rfl,dl,dR,dT,dC,dD⟩;obtain ⟨r0,rfl,hr0⟩:=iM hv;have mr:=ap hr0;have c0:=fQ mr;have d0:=fW mr
    cases n with
    |zero=>exact absurd hD (by lia)
    |succ n =>
    refine ⟨_,rfl,_,rfl,r0,m,rfl,cJ.ts (.of (s6.trans s7)) r0 (hR.mem r0 mr),hT.mem mr,by (exact oqj),by lia,h0,h1,fun r' G3 s8 h8 t8 e8 f8=>⟨s7.trans s8,⟨_,rfl⟩,ds++[r'],(hI ds [r']).symm,by rw [ak,dl];rfl,(aX.ts (.of s8) ds dR).app ⟨h8,trivial⟩,dT.app ⟨t8,trivial⟩,?_,?_⟩⟩
    ·rw [bK hr0,cM,cM,dC];simp only [aP,e8]
    ·rw [bK hr0,gU,gU,dD];simp only [dI,f8]
   rintro zs σ G2 ⟨s7,_,ds,rfl,dl,dR,dT,dC,dD⟩ l8 hl8;have s8:=s7.trans (aA hl8 (.lst (bG ds)));have g8:aJ G2 l8 (.lst (bG ds)) l8=some (.lst (bG ds)):=aC;have dR8:=aX.ts (.of (aA hl8 (.lst (bG ds)))) ds dR;generalize aJ G2 l8 (.lst (bG ds))=G8 at s8 g8 dR8 ⊢;refine ⟨l8,_,rfl,.inl ⟨bI.of g8,fun t9 ht9=>?_⟩⟩;have s9:=aA ht9 (.tup (bG ds));refine ⟨s6.trans (s8.trans s9),⟨_,rfl⟩,eL.append (tw.mono fun _ _ z=>nQ.ts (.of (s8.trans s9)) z) ⟨⟨t9,ds,rfl,aC,aX.ts (.of s9) ds dR8,dT,?_,?_⟩,trivial⟩⟩
   ·rw [dC,bU,ci]
   ·rw [dD,bU,ci]
  rintro ys σ G ⟨s6,_,tw⟩ l7 hl7;have tw:eL (nQ G) ys [b]:=tw;have s7:=s6.trans (aA hl7 (.lst ys));have g7:aJ G l7 (.lst ys) l7=some (.lst ys):=aC;replace tw:=tw.mono fun _ _ z=>nQ.ts (.of (aA hl7 (.lst ys))) z
  generalize aJ G l7 (.lst ys)=H7 at s7 g7 tw ⊢;refine ⟨l7,_,rfl,.inl ⟨bI.of g7,fun t8 ht8=>?_⟩⟩;have s8:=s7.trans (aA ht8 (.tup ys));have g8:aJ H7 t8 (.tup ys) t8=some (.tup ys):=aC;replace tw:=tw.mono fun _ _ z=>nQ.ts (.of (aA ht8 (.tup ys))) z
  generalize aJ H7 t8 (.tup ys)=H8 at s8 g8 tw ⊢;obtain ⟨v2,rfl,⟨qb,bs,rfl,gb,Rb,Tb,Cb,Db⟩⟩:=bQ0 tw;refine ⟨r4,t8,_,_,rfl,rfl,(s5.trans s8) _ _ g4,g8,by show 3<=sizeLine;decide,fun r9 H9 s9 g9=>?_⟩;have s59:=s8.trans s9;have sF:=sA.trans s59;exact k (.times r9 qb nn bs) H9 sF ⟨g9,s9 _ _ gb,aX.ts (.of s9) bs Rb⟩ ⟨ht.1,ht.2.1,Tb⟩ (by simp only [Rw.cnt,Cb]) (by simp only [Rw.dp,Db])
 |lt p x t =>
  obtain rfl:p=P:=hP;have hp:=hr0.1;refine ⟨_,rfl,p,_,_,.str "let",rfl,rfl,aQ.of hp,rfl,bJ,fun t1 ht1=>?_⟩;obtain ⟨H1,e0,sa,gt1⟩:=hV ht1 (.tup [.str "ladder",.str "flat"]);rw [e0];clear e0;refine ⟨t1,[.str "ladder",.str "flat"],rfl,.inr (aQ.of gt1),rfl,by decide,_,rfl,?_⟩;refine aR (by decide +kernel) ?_;replace hp:=sa _ _ hp;refine ⟨_,rfl,p,_,_,.str "let",rfl,rfl,aQ.of hp,rfl,bJ,fun t2 ht2=>?_⟩;obtain ⟨H2,e0,sb,gt2⟩:=hV ht2 (.tup [.str "choose",.str "first"]);rw [e0];clear e0;refine ⟨t2,[.str "choose",.str "first"],rfl,.inr (aQ.of gt2),rfl,by decide,_,rfl,?_⟩;refine aR (by decide +kernel) ?_;have s2:=sa.trans sb;replace hp:=sb _ _ hp;refine ⟨_,rfl,p,_,_,.str "let",rfl,rfl,aQ.of hp,rfl,bJ,fun t3 ht3=>?_⟩;obtain ⟨H3,e0,s3,gt3⟩:=hV ht3 (.tup [.str "when",.str "times"]);rw [e0];clear e0;refine ⟨t3,[.str "when",.str "times"],rfl,.inr (aQ.of gt3),rfl,by decide,_,rfl,?_⟩;refine aR (by decide +kernel) ⟨_,rfl,?_⟩
  exact k (.lt p x t) H3 (s2.trans s3) (cJ.ts (.of (s2.trans s3)) (.lt p x t) hr0) trivial rfl rfl
 |tell p t =>
  obtain rfl:p=P:=hP;have hp:=hr0.1;refine ⟨_,rfl,p,_,_,.str "tell",rfl,rfl,aQ.of hp,rfl,bJ,fun t1 ht1=>?_⟩;obtain ⟨H1,e0,sa,gt1⟩:=hV ht1 (.tup [.str "ladder",.str "flat"]);rw [e0];clear e0;refine ⟨t1,[.str "ladder",.str "flat"],rfl,.inr (aQ.of gt1),rfl,by decide,_,rfl,?_⟩;refine aR (by decide +kernel) ?_;replace hp:=sa _ _ hp;refine ⟨_,rfl,p,_,_,.str "tell",rfl,rfl,aQ.of hp,rfl,bJ,fun t2 ht2=>?_⟩;obtain ⟨H2,e0,sb,gt2⟩:=hV ht2 (.tup [.str "choose",.str "first"]);rw [e0];clear e0;refine ⟨t2,[.str "choose",.str "first"],rfl,.inr (aQ.of gt2),rfl,by decide,_,rfl,?_⟩;refine aR (by decide +kernel) ?_;have s2:=sa.trans sb;replace hp:=sb _ _ hp;refine ⟨_,rfl,p,_,_,.str "tell",rfl,rfl,aQ.of hp,rfl,bJ,fun t3 ht3=>?_⟩;obtain ⟨H3,e0,s3,gt3⟩:=hV ht3 (.tup [.str "when",.str "times"]);rw [e0];clear e0;refine ⟨t3,[.str "when",.str "times"],rfl,.inr (aQ.of gt3),rfl,by decide,_,rfl,?_⟩;refine aR (by decide +kernel) ⟨_,rfl,?_⟩
  exact k (.tell p t) H3 (s2.trans s3) (cJ.ts (.of (s2.trans s3)) (.tell p t) hr0) trivial rfl rfl
theorem bC3 (C_RwB:Cl P w K mg base 9 (pH 8) "_law_row_by") (m_tuple:mg "tuple"=none) (m_len:mg "len"=none):gN P w K mg base "_law_with_kinds" "_law_with_kinds" bS3 10 ["_law_program_here","_law_kinds"] spWithK:=by
 refine iV ["_law_program_here","_law_kinds"] fun H Q nd hr h=>?_
 obtain ⟨p,pk,ks,ks2,rs,c,d,rfl,PG,hk,hl,hc,hd,k⟩:=h;refine ⟨_,(aF (aU (aL (aB (pv 1) (aN (xD cX m_tuple ee (aN (cQ ["_law_row","_law_kinds"] [none,some 1] (mC (bV aI (pv 0) aD)) (fun _ _ _ _=>(eO 0)) (fun _ _ _ _=>eK) (fun _ _ _ _=>(bW C_RwB hr (aB (pv 0) (aN (iK (bQ1 K) m_len bz (aN (pv 1))))))))))))))),?_⟩;obtain ⟨⟨pk0,pr,hp,hk0,hpr⟩,hR,hT,hC,hD⟩:=PG;have rl:=eI rs;refine ⟨_,rfl,_,rfl,p,_,_,.ref pr,rfl,rfl,aQ.of hp,rfl,pr,rfl,⟨_,aQ.of hpr⟩,gL (K:=K) (a:=pr) (xs:=bG rs) (fun i ys σ G=>bB H G/\(∃ v,σ=[v,some (.ref pk)])/\∃ ds:List Rw,ys=bG ds/\ds.length=i/\aX G ds/\dQ ds/\aP ds=aP (rs.take i)/\dI ds=dI (rs.take i))
  (cE (by rw [bU];lia)) ⟨bB.refl _,⟨_,rfl⟩,[],rfl,rfl,trivial,trivial,rfl,rfl⟩ (by rintro i ys σ G ⟨_,_,ds,e,e2,_⟩;rw [e,bU];lia) (by rintro i ys σ G _ ⟨e,_⟩;exact aQ.of (e _ _ hpr)) ?_ ?_⟩
 ·rintro i v ys σ G hv ⟨s1,⟨v',rfl⟩,ds,rfl,dl,dR,dT,dC,dD⟩;obtain ⟨r0,rfl,hr0⟩:=iM hv;have mr:=ap hr0;have c0:=fQ mr;have d0:=fW mr;refine ⟨_,rfl,_,rfl,pk,_,rfl,.inr (aQ.of (s1 _ _ hk)),r0,_,rfl,cJ.ts (.of s1) r0 (hR.mem r0 mr),hT.mem mr,by lia,by show r0.dp+1<=8;lia,by rw [aa];(exact jq _),by rw [aa];lia,fun r' G3 s8 h8 t8 e8 f8=>⟨s1.trans s8,⟨_,rfl⟩,ds++[r'],(hI ds [r']).symm,by rw [ak,dl];rfl,(aX.ts (.of s8) ds dR).app ⟨h8,trivial⟩,dT.app ⟨t8,trivial⟩,?_,?_⟩⟩
  ·rw [bK hr0,cM,cM,dC];simp only [aP,e8]
  ·rw [bK hr0,gU,gU,dD];simp only [dI,f8]
 rintro ys σ G ⟨s1,_,ds,rfl,dl,dR,dT,dC,dD⟩ l2 hl2;rw [bU,ci] at dC dD;have s2:=s1.trans (aA hl2 (.lst (bG ds)));have g2:aJ G l2 (.lst (bG ds)) l2=some (.lst (bG ds)):=aC;have dR2:=aX.ts (.of (aA hl2 (.lst (bG ds)))) ds dR;generalize aJ G l2 (.lst (bG ds))=H2 at s2 g2 dR2 ⊢;refine ⟨l2,_,rfl,.inl ⟨bI.of g2,fun t3 ht3=>?_⟩⟩;obtain ⟨H3,e0,s3,g3⟩:=hV ht3 (.tup (bG ds));rw [e0];clear e0;refine ⟨bJ,fun t4 ht4=>?_⟩;have s4:=aA ht4 (.tup [.ref pk,.ref t3]);have sF:=s2.trans (s3.trans s4);exact k t4 ds _ sF ⟨⟨pk,t3,aC,sF _ _ hk,s4 _ _ g3⟩,aX.ts (.of (s3.trans s4)) ds dR2,dT,by (exact oqo),by (exact oqo)⟩
theorem bA2 (n:Nat) (C_Pth:Cl P w K mg base (n+1) (jO n) "_law_paths") (m_enumerate:mg "enumerate"=none):gN P w K mg base "_law_paths" "_law_paths" bR4 (n+1+1) ["_law_rows"] (jO (n+1)):=by
 refine iV ["_law_rows","_law_found","_law_k","_law_row","_law_j","_law_block_here"] fun H Q nd hr h=>?_
 obtain ⟨p,rs,rfl,hp,hR,hc,hd,k⟩:=h;refine ⟨_,(eY 1 nd (bS cF)
  (aE (pfr (wB (by rfl) m_enumerate (aN (pv 0))) (eG rfl (aY (eO 2 nd) (aY (eO 3 nd) dN)))
  (aE (bR (dG aj bo bq bM (pv 1) (aN (aL (aN (pv 2))))))
  (aF (bE (dM cU (bV aI (pv 3) aD) (aL (aB aG (aN aG)))) (aF (pfr (wB (by rfl) m_enumerate (aN (bH bY (pv 3) (bO aD) bQ))) (eG rfl (aY (eO 4 nd) (aY (eO 5 nd) dN)))
  (aF (bR (dG aj fu fv gE (pv 1) (aN (cQ ["_law_path","_law_k","_law_j"] [none,some 2,some 4] (dW (bW C_Pth hr (aN (pv 5)))) (fun _ _ _ _=>(eO 0)) (fun _ _ _ _=>eK) (fun _ _ _ _=>(aM cI (aL (aB (pv 1) (aN (pv 2)))) (pv 0)))))))))) aO))))
  (aF (aU (pv 1))))),?_⟩
 have rl:=eI rs;refine ⟨av _,fun lf hlf=>?_⟩;obtain ⟨H1,e0,s1,g1⟩:=hV hlf (.lst []);rw [e0];clear e0;refine ⟨_,rfl,p,rfl,⟨_,aQ.of (s1 _ _ hp)⟩,qK (K:=K) (a:=p) (xs:=bG rs) (fun i σ G=>∃ (zs:List V) (v2 v3 v4 v5:Option V),σ=[some (.ref p),some (.ref lf),v2,v3,v4,v5]/\bB H G/\G lf=some (.lst zs)/\eL (eN G) zs (eF 0 (rs.take i)))
  ⟨[],_,_,_,_,rfl,s1,g1,trivial⟩ (by rintro i σ G _ ⟨_,_,_,_,_,_,e,_⟩;exact aQ.of (e _ _ hp)) ?_ ?_⟩
 ·rintro D' i v σ G t hv ⟨zs,v2,v3,v4,v5,rfl,s2,g2,tw⟩ ht;obtain ⟨r,rfl,hr0⟩:=iM hv;have mr:=ap hr0;have cr:=fQ mr;have dr:=fW mr;rw [aD0 hr0];have zl:=tw.length;rw [dS] at zl;have ct:aP (rs.take i)<=aP rs:=by
   have:=xJ hr0
   conv=>rhs;rw [this]
   rw [cM];(exact oqI)
  have st:=aA ht (.tup [.int i,.ref r.p]);have gt:aJ G t (.tup [.int i,.ref r.p]) t=some (.tup [.int i,.ref r.p]):=aC;replace s2:=s2.trans st;replace g2:=st _ _ g2;replace tw:=tw.mono fun _ _ z=>eN.ts (.of st) z
  generalize aJ G t (.tup [.int i,.ref r.p])=G at s2 g2 tw gt ⊢;refine ⟨t,_,rfl,aQ.of gt,rfl,_,_,rfl,_,_,rfl,rfl,?_⟩;have hrr:=cJ.ts (.of s2) r (hR.mem r mr);refine ⟨_,rfl,.inl ⟨rfl,_,bI.of g2⟩,_,rfl,eQ,fun t3 ht3=>?_⟩;have s3:=aA ht3 (.tup [.int i]);have g3:aJ G t3 (.tup [.int i]) t3=some (.tup [.int i]):=aC;replace g2:=s3 _ _ g2;replace s2:=s2.trans s3;replace tw:=tw.mono fun _ _ z=>eN.ts (.of s3) z
  generalize aJ G t3 (.tup [.int i])=G3 at s2 g2 tw g3 ⊢;refine ⟨lf,_,_,rfl,rfl,g2,cE (by lia),?_⟩;have l4:=TS.lst (ys:=zs++[.ref t3]) g2;have s4:bB H (aJ G3 lf (.lst (zs++[.ref t3]))):=bF s2 hlf;have g4:aJ G3 lf (.lst (zs++[.ref t3])) lf=some (.lst (zs++[.ref t3])):=aC;have tw4:eL (eN (aJ G3 lf (.lst (zs++[.ref t3])))) (zs++[.ref t3]) (eF 0 (rs.take i)++[[i]]):=eL.append (tw.mono fun _ _ z=>eN.ts l4 z) ⟨⟨t3,rfl,l4 _ _ g3⟩,trivial⟩;have hr4:cJ (aJ G3 lf (.lst (zs++[.ref t3]))) r:=cJ.ts l4 r (cJ.ts (.of s2) r (hR.mem r mr));clear g3 g2 s2 tw l4 s3 gt st hrr;generalize aJ G3 lf (.lst (zs++[.ref t3]))=G4 at s4 g4 tw4 hr4 ⊢;refine ⟨_,rfl,r.p,_,_,.str r.w,rfl,rfl,aQ.of hr4.at,fL,bJ,fun t5 ht5=>?_⟩;obtain ⟨G5,e0,s5,gt5⟩:=hV ht5 (.tup [.str "when",.str "times"]);rw [e0];clear e0;refine ⟨t5,[.str "when",.str "times"],rfl,.inr (aQ.of gt5),rfl,by decide,_,rfl,?_⟩;replace g4:=s5 _ _ g4;replace hr4:=cJ.ts (.of s5) r hr4
  replace tw4:=tw4.mono fun _ _ z=>eN.ts (.of s5) z
  replace s5:=s4.trans s5;have eb:=bL9 hr4
  by_cases c:r.bks=[]
  ·refine aR (fun z=>eb.mp z c) ⟨_,_,_,_,_,rfl,s5,g4,?_⟩;rw [qY,c];exact tw4
  refine bD (eb.mpr c) ?_;refine ⟨_,rfl,2,rfl,r.p,_,rfl,hr4.at,fun r6 G6 s6 g6=>?_⟩;rw [aU0 c] at g6;replace g4:=s6 _ _ g4;replace hr4:=cJ.ts (.of s6) r hr4;replace tw4:=tw4.mono fun _ _ z=>eN.ts (.of s6) z
  replace s6:=s5.trans s6;have bl:r.bks.length<=2:=by cases r <;> simp [Rw.bks]
  refine ⟨r6,rfl,⟨_,aQ.of g6⟩,qK (K:=K) (a:=r6) (xs:=r.bks.map fun b=>V.ref b.1) (fun j σ G=>∃ (zs:List V) (v4 v5:Option V),σ=[some (.ref p),some (.ref lf),some (.int i),some (.ref r.p),v4,v5]/\bB H G/\G r6=some (.tup (r.bks.map fun b=>V.ref b.1))/\cJ G r/\G lf=some (.lst zs)/\eL (eN G) zs (eF 0 (rs.take i)++([i] :: bp i 0 ((r.bks.map (·.2)).take j))))
   ⟨_,_,_,rfl,s6,g6,hr4,g4,tw4⟩ (by rintro j σ G _ ⟨_,_,_,_,_,e,_⟩;exact aQ.of e) ?_ ?_⟩
  ·clear tw4 g4 g6 hr4 s6 s5 s4 zl;rintro D2 j v σ G t hv ⟨zs,v4,v5,rfl,s7,g7,hr7,f7,tw⟩ ht;obtain ⟨b,hb,rfl⟩:∃ b,r.bks[j]?=some b/\v= .ref b.1:=by
    rw [dh] at hv;obtain ⟨b,hb,e⟩:=ng.mp hv;exact ⟨b,hb,e.symm⟩
   have st:=aA ht (.tup [.int j,.ref b.1]);have gt:aJ G t (.tup [.int j,.ref b.1]) t=some (.tup [.int j,.ref b.1]):=aC;replace s7:=s7.trans st;replace g7:=st _ _ g7;replace f7:=st _ _ f7;replace hr7:=cJ.ts (.of st) r hr7;replace tw:=tw.mono fun _ _ z=>eN.ts (.of st) z
   generalize aJ G t (.tup [.int j,.ref b.1])=G at s7 g7 f7 hr7 tw gt ⊢;refine ⟨t,_,rfl,aQ.of gt,rfl,_,_,rfl,_,_,rfl,rfl,?_⟩;have B:=aJ1 hr7 b (ap hb);have b1:=B.cnt;have b2:=B.dp
   cases n with
   |zero=>exact absurd hd (by lia)
   |succ n =>
   refine ⟨_,rfl,.inl ⟨rfl,_,bI.of f7⟩,_,rfl,b.1,b.2,rfl,B.at_,B.rows,by lia,by lia,fun q us G8 s8 _ h8 t8=>?_⟩;have ul:=t8.length;have h9:=dS b.2 0;refine ⟨q,rfl,⟨_,bI.of h8⟩,cO (K:=K) (a:=q) (xs:=us) (fun m ys σ G=>bB G8 G/\(∃ v,σ=[v,some (.int i),some (.int j)])/\eL (eN G) ys (((eF 0 b.2).take m).map fun P=>i :: j :: P))
    (cE (by lia)) ⟨bB.refl _,⟨_,rfl⟩,trivial⟩ (by rintro m ys σ G ⟨_,_,e⟩;rw [e.length,aa,cv];lia) (by rintro m ys σ G _ ⟨e,_⟩;exact bI.of (e _ _ h8)) ?_ ?_⟩
   ·rintro m v ys σ G9 hv ⟨s9,⟨v',rfl⟩,tw9⟩;obtain ⟨P,hP,a,rfl,ha⟩:=jU t8 hv;have pl:=aN9 hP;have dc:=nN b.2;refine ⟨_,rfl,_,rfl,bJ,fun tA htA=>?_⟩;have sA:=aA htA (.tup [.int i,.int j]);refine ⟨_,rfl,tA,a,_,_,rfl,rfl,aC,sA _ _ (s9 _ _ ha),bu (cE (by unfold lW;rw [aa];show 2+_<=_;lia)),fun rB GB sB gB=>⟨s9.trans (sA.trans sB),⟨_,rfl⟩,?_⟩⟩;rw [bK hP,bg];exact eL.append (tw9.mono fun _ _ z=>eN.ts (.of (sA.trans sB)) z) ⟨⟨rB,rfl,gB⟩,trivial⟩
   rintro ys σ G9 ⟨s9,_,tw9⟩ lc hlc;rw [ul,ci] at tw9;have sC:=aA hlc (.lst ys);have gC:aJ G9 lc (.lst ys) lc=some (.lst ys):=aC;replace tw9:=tw9.mono fun _ _ z=>eN.ts (.of sC) z
   replace sC:=s8.trans (s9.trans sC);replace f7:=sC _ _ f7;replace g7:=sC _ _ g7;replace hr7:=cJ.ts (.of sC) r hr7;replace tw:=tw.mono fun _ _ z=>eN.ts (.of sC) z
   replace sC:=s7.trans sC;generalize aJ G9 lc (.lst ys)=GC at sC gC f7 g7 hr7 tw9 tw ⊢;have yl:=tw9.length;have zl:=tw.length;have e2:(eF 0 (rs.take i)++([i] :: bp i 0 ((r.bks.map (·.2)).take j))).length<=100000:=by
    have:=bC9 i r j;rw [ak,cu,dS]
    lia
   rw [aa] at yl;refine ⟨lf,lc,_,_,rfl,rfl,f7,gC,bu (cE (by lia)),?_⟩;have l4:=TS.lst (ys:=zs++ys) f7;refine ⟨zs++ys,_,_,rfl,bF sC hlf,l4 _ _ g7,cJ.ts l4 r hr7,aC,?_⟩;have hb2:(r.bks.map (·.2))[j]?=some b.2:=by rw [dh,hb];rfl
   have hj:=(az.mp hb2).1;rw [bK hb2,zR,ww,cv,lm (by (exact bu ‹_›)), <- nu, <- mo];exact eL.append (tw.mono fun _ _ z=>eN.ts l4 z) (tw9.mono fun _ _ z=>eN.ts l4 z)
  ·rintro σ G ⟨zs,v4,v5,rfl,s7,_,_,f7,tw⟩;refine ⟨_,_,_,_,_,rfl,s7,f7,?_⟩;rw [qY]
   rwa [aa,iw (l:=r.bks.map (·.2)) (by rw [aa];(exact ai _))] at tw
 ·rintro σ G ⟨zs,v2,v3,v4,v5,rfl,s2,g2,tw⟩;rw [bU,ci] at tw;exact ⟨_,rfl,k lf zs G s2 hlf g2 tw⟩
theorem bG4 (n:Nat) (C_RAt:Cl P w K mg base (n+1) (jL n) "_law_row_at") (m_len:mg "len"=none):gN P w K mg base "_law_row_at" "_law_row_at" bS5 (n+1+1) ["_law_rows","_law_path"] (jL (n+1)):=by
 refine iV ["_law_rows","_law_path"] fun H Q nd hr h=>?_
 obtain ⟨p,q,rs,P,r,rfl,hp,hR,hq,ld,hn,k⟩:=h;refine ⟨_,(aE (bE (dM bP (iK aW m_len bz (aN (pv 1))) aD) (aF (aU (bV aI (pv 0) (bV aI (pv 1) aD)))) aO)
  (aF (aU (bW C_RAt hr (aB (bV aI (bV aI (pv 0) (bV aI (pv 1) aD)) (aM bT aD (bV aI (pv 1) aD))) (aN (bH bY (pv 1) (bO aD) bQ))))))),?_⟩
 refine ⟨_,rfl,q,_,rfl,.inr (aQ.of hq),rfl,_,rfl,?_⟩
 cases ld with
 |here h =>
  rename_i k0
  refine bD (af rfl) ?_;exact ⟨_,rfl,_,rfl,q,_,_,.int k0,rfl,rfl,aQ.of hq,fL,p,_,_,.ref r.p,rfl,rfl,aQ.of hp,xU h,k H (bB.refl _)⟩
 |deep h hb ld =>
  rename_i k0 j0 r0 b pb P
  have pl:=ld.pos;refine aR (fun z=>by have z:=ag z;injection z with z;simp only [lW,List.length_map,List.length_cons] at z;lia) ?_;have mr:=ap h;have hr0:=hR.mem r0 mr;obtain ⟨ba,bm⟩:=bD1 hb;have B:=aJ1 hr0 _ bm
  cases n with
  |zero=>exact absurd hn (by simp only [List.length_cons];lia)
  |succ n =>
  refine ⟨_,rfl,_,rfl,q,_,_,.int k0,rfl,rfl,aQ.of hq,fL,p,_,_,.ref r0.p,rfl,rfl,aQ.of hp,xU h,_,rfl,q,_,_,.int j0,rfl,rfl,aQ.of hq,at1,_,_,rfl,rfl,r0.p,_,_,.ref pb,rfl,rfl,aQ.of hr0.at,ba,?_⟩;refine ⟨_,rfl,2,rfl,q,_,rfl,hq,fun r1 H1 s1 g1=>?_⟩;rw [lN] at g1;exact ⟨pb,r1,b,P,r,rfl,s1 _ _ B.at_,aX.ts (.of s1) b B.rows,g1,ld,by simp only [List.length_cons] at hn;lia,fun H2 s2=>k H2 (s1.trans s2)⟩
theorem bJ8 (n:Nat) (C_Put:Cl P w K mg base (n+1) (wS n) "_law_put") (m_len:mg "len"=none):gN P w K mg base "_law_put" "_law_put" bL1 (n+1+1) ["_law_rows","_law_path","_law_some"] (wS (n+1)):=by
 refine iV ["_law_rows","_law_path","_law_some","_law_k","_law_at","_law_row"] fun H Q nd hr h=>?_
 obtain ⟨p,q,t,rs,ss,P,r,e,rfl,hp,hR,hT,hc,hq,ld,hn,ht,hS,hTs,hcs,hds,k⟩:=h;refine ⟨_,(eY 3 nd (bV aI (pv 1) aD)
  (aE (fK (bE (dM eW (iK aW m_len bz (aN (pv 1))) aD) (eY 4 nd (aM bT aD (bV aI (pv 1) aD))
  (eY 5 nd (bV aI (pv 0) (pv 3))
  (aF (kZ 2 nd (aL (aN (aM cI (aM cI (bH bY (pv 5) bQ (bO (pv 4))) (aL (aN (bW C_Put hr (aB (bV aI (pv 5) (pv 4)) (aB (bH bY (pv 1) (bO aD) bQ) (aN (pv 2)))))))) (bH bY (pv 5) (bO (aM bT (pv 4) aD)) bQ)))))))) aO))
  (aF (aU (aM cI (aM cI (bH bY (pv 0) bQ (bO (pv 3))) (pv 2)) (bH bY (pv 0) (bO (aM bT (pv 3) aD)) bQ)))))),?_⟩
 have rl:=eI rs;have sl:=eI ss;obtain ⟨k0,P1,rfl⟩:∃ k0 P1,P=k0 :: P1:=by cases ld <;> exact ⟨_,_,rfl⟩
 refine ⟨_,rfl,q,_,_,.int k0,rfl,rfl,aQ.of hq,fL,?_⟩;refine ⟨fun σ G=>∃ (t8:Addr) (ss8:List Rw) (r9:Rw) (v4 v5:Option V),σ=[some (.ref p),some (.ref q),some (.ref t8),some (.int k0),v4,v5]/\bB H G/\G t8=some (.tup (bG ss8))/\aX G ss8/\dQ ss8/\aP ss8<=16000/\rs[k0]?=some r9/\dI ss8<=r9.dp+e/\aP ss8+r.cnt=r9.cnt+aP ss,?_,?_⟩
 ·refine ⟨_,rfl,q,_,rfl,.inr (aQ.of hq),_,_,rfl,rfl,_,rfl,?_⟩
  cases ld with
  |here h=>exact aR (by simp [lW]) ⟨t,ss,r,_,_,rfl,bB.refl _,ht,hS,hTs,by (exact oqf),h,hds,by lia⟩
  |deep h hb ld =>
   rename_i j0 r0 b pb P
   have pl:=ld.pos;have mr:=ap h;have cr:=fQ mr;have hr0:=hR.mem r0 mr;have tr:=hT.mem mr
   cases n with
   |zero=>exact absurd hn (by simp only [List.length_cons];lia)
   |succ n =>
   refine bD (af (by simp only [lW,List.length_map,List.length_cons];lia)) ?_;refine ⟨_,rfl,q,_,_,.int j0,rfl,rfl,aQ.of hq,at1,_,_,rfl,rfl,?_⟩;refine ⟨_,rfl,_,rfl,p,_,_,.ref r0.p,rfl,rfl,aQ.of hp,xU h,?_⟩;generalize hP:r0.p=P0
   cases r0 with
   |when p0 pa pb0 t0 a0 b0 =>
    obtain rfl:p0=P0:=hP;obtain ⟨hrow,tm,tf,ha,hb',ra,rb⟩:=hr0;simp only [Rw.blk] at hb;simp only [Rw.cnt] at cr
    split at hb
    ·rename_i e0
     subst e0
     cases hb
     refine ⟨_,rfl,_,rfl,2,rfl,p0,_,rfl,hrow,fun r1 H1 s1 g1=>?_⟩;have g1:H1 r1=some (.tup [.str "when",.ref t0.p]):=g1;refine ⟨_,rfl,_,rfl,p0,_,_,.ref pb,rfl,rfl,aQ.of (s1 _ _ hrow),rfl,_,rfl,2,rfl,q,_,rfl,s1 _ _ hq,fun r2 H2 s2 g2=>?_⟩;rw [lN] at g2;have s12:=s1.trans s2;refine ⟨_,rfl,pb,r2,t,b,ss,P,r,e,rfl,s12 _ _ ha,aX.ts (.of s12) _ ra,tr.1,by lia,g2,ld,by simp only [List.length_cons] at hn;lia,s12 _ _ ht,aX.ts (.of s12) ss hS,hTs,hcs,hds,fun p3 b3 H3 s3 g3 R3 T3 C3 D3=>?_⟩;refine ⟨eQ,fun t4 ht4=>?_⟩;refine ⟨r1,t4,_,_,rfl,rfl,((s2.trans s3).trans (aA ht4 (.tup [.ref p3]))) _ _ g1,aC,by show 3<=sizeLine;decide,fun r5 H5 s5 g5=>?_⟩;have s35:=(aA ht4 (.tup [.ref p3])).trans s5;have s15:=s12.trans (s3.trans s35);refine ⟨_,rfl,_,rfl,_,_,rfl,rfl,3,rfl,p0,_,rfl,s15 _ _ hrow,fun r6 H6 s6 g6=>?_⟩;have g6:H6 r6=some (.tup [.ref pb0]):=g6;refine ⟨r5,r6,_,_,rfl,rfl,s6 _ _ g5,g6,by show 4<=sizeLine;decide,fun r7 H7 s7 g7=>?_⟩
     have s37:=s35.trans (s6.trans s7);have s17:=s12.trans (s3.trans s37);refine ⟨eQ,fun t8 ht8=>?_⟩;have s8:=aA ht8 (.tup [.ref r7]);have g8:aJ H7 t8 (.tup [.ref r7]) t8=some (.tup (bG [Rw.when r7 p3 pb0 t0 b3 b0])):=aC;have row8:cJ (aJ H7 t8 (.tup [.ref r7])) (Rw.when r7 p3 pb0 t0 b3 b0):=⟨s8 _ _ g7,tm.ts (.of (s17.trans s8)),tf,(s37.trans s8) _ _ g3,(s17.trans s8) _ _ hb',aX.ts (.of (s37.trans s8)) b3 R3,aX.ts (.of (s17.trans s8)) b0 rb⟩
     have s18:=s17.trans s8;clear g7 s37 s17 g6 g5 g3 g2 g1;generalize aJ H7 t8 (.tup [.ref r7])=H8 at g8 row8 s18 ⊢;exact ⟨t8,[Rw.when r7 p3 pb0 t0 b3 b0],_,_,_,rfl,s18,g8,⟨row8,trivial⟩,⟨⟨T3,tr.2⟩,trivial⟩,by simp only [aP,Rw.cnt];lia,h,by simp only [dI,Rw.dp];lia,by simp only [aP,Rw.cnt];lia⟩
    ·split at hb
     ·rename_i e1
      subst e1
      cases hb
      refine ⟨_,rfl,_,rfl,3,rfl,p0,_,rfl,hrow,fun r1 H1 s1 g1=>?_⟩;have g1:H1 r1=some (.tup [.str "when",.ref t0.p,.ref pa]):=g1;refine ⟨_,rfl,_,rfl,p0,_,_,.ref pb,rfl,rfl,aQ.of (s1 _ _ hrow),rfl,_,rfl,2,rfl,q,_,rfl,s1 _ _ hq,fun r2 H2 s2 g2=>?_⟩;rw [lN] at g2;have s12:=s1.trans s2;refine ⟨_,rfl,pb,r2,t,b,ss,P,r,e,rfl,s12 _ _ hb',aX.ts (.of s12) _ rb,tr.2,by lia,g2,ld,by simp only [List.length_cons] at hn;lia,s12 _ _ ht,aX.ts (.of s12) ss hS,hTs,hcs,hds,fun p3 b3 H3 s3 g3 R3 T3 C3 D3=>?_⟩;refine ⟨eQ,fun t4 ht4=>?_⟩;refine ⟨r1,t4,_,_,rfl,rfl,((s2.trans s3).trans (aA ht4 (.tup [.ref p3]))) _ _ g1,aC,by show 4<=sizeLine;decide,fun r5 H5 s5 g5=>?_⟩;have s35:=(aA ht4 (.tup [.ref p3])).trans s5;have s15:=s12.trans (s3.trans s35);refine ⟨_,rfl,_,rfl,_,_,rfl,rfl,4,rfl,p0,_,rfl,s15 _ _ hrow,fun r6 H6 s6 g6=>?_⟩;have g6:H6 r6=some (.tup []):=g6;refine ⟨r5,r6,_,_,rfl,rfl,s6 _ _ g5,g6,by show 4<=sizeLine;decide,fun r7 H7 s7 g7=>?_⟩
      have s37:=s35.trans (s6.trans s7);have s17:=s12.trans (s3.trans s37);refine ⟨eQ,fun t8 ht8=>?_⟩;have s8:=aA ht8 (.tup [.ref r7]);have g8:aJ H7 t8 (.tup [.ref r7]) t8=some (.tup (bG [Rw.when r7 pa p3 t0 a0 b3])):=aC;have row8:cJ (aJ H7 t8 (.tup [.ref r7])) (Rw.when r7 pa p3 t0 a0 b3):=⟨s8 _ _ g7,tm.ts (.of (s17.trans s8)),tf,(s17.trans s8) _ _ ha,(s37.trans s8) _ _ g3,aX.ts (.of (s17.trans s8)) a0 ra,aX.ts (.of (s37.trans s8)) b3 R3⟩
      have s18:=s17.trans s8;clear g7 s37 s17 g6 g5 g3 g2 g1;generalize aJ H7 t8 (.tup [.ref r7])=H8 at g8 row8 s18 ⊢;exact ⟨t8,[Rw.when r7 pa p3 t0 a0 b3],_,_,_,rfl,s18,g8,⟨row8,trivial⟩,⟨⟨tr.1,T3⟩,trivial⟩,by simp only [aP,Rw.cnt];lia,h,by simp only [dI,Rw.dp];lia,by simp only [aP,Rw.cnt];lia⟩
     ·cases hb
   |times p0 pb0 n0 b0 =>
    obtain rfl:p0=P0:=hP;obtain ⟨hrow,hb',rb⟩:=hr0;simp only [Rw.blk] at hb;simp only [Rw.cnt] at cr
    split at hb
    ·rename_i e0
     subst e0
     cases hb
     refine ⟨_,rfl,_,rfl,2,rfl,p0,_,rfl,hrow,fun r1 H1 s1 g1=>?_⟩;have g1:H1 r1=some (.tup [.str "times",.int n0]):=g1;refine ⟨_,rfl,_,rfl,p0,_,_,.ref pb,rfl,rfl,aQ.of (s1 _ _ hrow),rfl,_,rfl,2,rfl,q,_,rfl,s1 _ _ hq,fun r2 H2 s2 g2=>?_⟩;rw [lN] at g2;have s12:=s1.trans s2;refine ⟨_,rfl,pb,r2,t,b,ss,P,r,e,rfl,s12 _ _ hb',aX.ts (.of s12) _ rb,tr.2.2,by lia,g2,ld,by simp only [List.length_cons] at hn;lia,s12 _ _ ht,aX.ts (.of s12) ss hS,hTs,hcs,hds,fun p3 b3 H3 s3 g3 R3 T3 C3 D3=>?_⟩;refine ⟨eQ,fun t4 ht4=>?_⟩;refine ⟨r1,t4,_,_,rfl,rfl,((s2.trans s3).trans (aA ht4 (.tup [.ref p3]))) _ _ g1,aC,by show 3<=sizeLine;decide,fun r5 H5 s5 g5=>?_⟩;have s35:=(aA ht4 (.tup [.ref p3])).trans s5;have s15:=s12.trans (s3.trans s35);refine ⟨_,rfl,_,rfl,_,_,rfl,rfl,3,rfl,p0,_,rfl,s15 _ _ hrow,fun r6 H6 s6 g6=>?_⟩;have g6:H6 r6=some (.tup []):=g6;refine ⟨r5,r6,_,_,rfl,rfl,s6 _ _ g5,g6,by show 3<=sizeLine;decide,fun r7 H7 s7 g7=>?_⟩
     have s37:=s35.trans (s6.trans s7);have s17:=s12.trans (s3.trans s37);refine ⟨eQ,fun t8 ht8=>?_⟩;have s8:=aA ht8 (.tup [.ref r7]);have g8:aJ H7 t8 (.tup [.ref r7]) t8=some (.tup (bG [Rw.times r7 p3 n0 b3])):=aC;have row8:cJ (aJ H7 t8 (.tup [.ref r7])) (Rw.times r7 p3 n0 b3):=⟨s8 _ _ g7,(s37.trans s8) _ _ g3,aX.ts (.of (s37.trans s8)) b3 R3⟩
     have s18:=s17.trans s8;clear g7 s37 s17 g6 g5 g3 g2 g1;generalize aJ H7 t8 (.tup [.ref r7])=H8 at g8 row8 s18 ⊢;exact ⟨t8,[Rw.times r7 p3 n0 b3],_,_,_,rfl,s18,g8,⟨row8,trivial⟩,⟨⟨tr.1,tr.2.1,T3⟩,trivial⟩,by simp only [aP,Rw.cnt];lia,h,by simp only [dI,Rw.dp];lia,by simp only [aP,Rw.cnt];lia⟩
    ·cases hb
   |thr p w x vs am=>simp only [Rw.blk] at hb;cases hb
   |lt p x t=>simp only [Rw.blk] at hb;cases hb
   |tell p t=>simp only [Rw.blk] at hb;cases hb
 rintro σ G ⟨t8,ss8,r9,v4,v5,rfl,s8,g8,R8,T8,C8,h9,D8,E8⟩;have sl8:=eI ss8;have hp8:=s8 _ _ hp;obtain ⟨a1,a2,a3,a4⟩:=aS9 h9 (aX.ts (.of s8) rs hR) hT R8 T8 D8;refine ⟨_,rfl,_,rfl,k0,rfl,p,_,rfl,hp8,fun rX HX sX gX=>?_⟩;rw [pI,aE4] at gX;refine ⟨_,rfl,rX,t8,_,_,rfl,rfl,gX,sX _ _ g8,bu (cE (by rw [bU,bU];have:=vo k0 rs;lia)),fun rY HY sY gY=>?_⟩;rw [<- hI] at gY;have sXY:=sX.trans sY;refine ⟨_,rfl,_,rfl,_,_,rfl,rfl,(k0:Int)+1,rfl,p,_,rfl,sXY _ _ hp8,fun rZ HZ sZ gZ=>?_⟩;rw [show ((k0:Int)+1)=((k0+1:Nat):Int) by lia,lE,aC2] at gZ;refine ⟨rY,rZ,_,_,rfl,rfl,sZ _ _ gY,gZ,bu (cE (by rw [bU,bU,ak,nv];have:=vo k0 rs;lia)),fun rW HW sW gW=>?_⟩;rw [<- hI] at gW;have sXW:=sXY.trans (sZ.trans sW);exact k rW _ HW (s8.trans sXW) gW (aX.ts (.of sXW) _ a1) a2 (by lia) a4
theorem bJ7 (C_Draw:Cl P w K mg base 1 spDraw "_law_draw") (C_WiK:Cl P w K mg base 10 spWithK "_law_with_kinds") (m_tuple:mg "tuple"=none) (m_len:mg "len"=none) (m_min:mg "min"=none):gN P w K mg base "_law_other_kinds" "_law_other_kinds" bK9 11 ["_law_deal_here","_law_program_here"] spOtherK:=by
 refine iV ["_law_deal_here","_law_program_here","_law_kinds","_law_form","_law_more","_law_one","_law_at"] fun H Q nd hr h=>?_
 obtain ⟨d,l,p,ks,rs,c,e,rfl,D,PG,kl,hc,he,k⟩:=h;refine ⟨_,(eY 2 nd (bV aI (pv 1) aD)
  (eY 3 nd (bW C_Draw hr (aB (pv 0) (aN aD)))
  (aE (bE (dM bP (pv 3) aD) (aF (aU (bW C_WiK hr (aB (pv 1) (aN (aL cF)))))) aO)
  (aE (bE (dM bP (pv 3) aD) (eY 4 nd (xD cX m_tuple ee (aN (cQ ["_law_letter"] [none] (bF1 (bH xS aG bQ (bO (aM bT (aM dP aD (iK (rV rfl) m_min og (aB aD (aN (iK aW m_len bz (aN (pv 2))))))) (bW C_Draw hr (aB (pv 0) (aN aD))))))) (fun _ _ _ _=>(eO 0)) (fun _ _ _ _=>eK) (fun _ _ _ _=>(aM jM aG (pv 0))))))
  (aF (aU (bW C_WiK hr (aB (pv 1) (aN (aM cI (pv 2) (pv 4)))))))) aO)
  (aE (bE (dM bP (iK aW m_len bz (aN (pv 2))) aD) (aF (aU (pv 1))) aO)
  (eY 5 nd (bV aI (pv 2) (bW C_Draw hr (aB (pv 0) (aN (iK aW m_len bz (aN (pv 2)))))))
  (eY 6 nd (bW C_Draw hr (aB (pv 0) (aN (aM bT (iK aW m_len bz (aN (pv 2))) aD))))
  (aF (aU (bW C_WiK hr (aB (pv 1) (aN (aM cI (aM cI (bH bY (pv 2) bQ (bO (pv 6))) (aL (aN (pv 5)))) (bH bY (pv 2) (bO (aM dP (aM bT (pv 6) (pv 3)) aD)) bQ)))))))))))))),?_⟩
 obtain ⟨pk,pr,hp,hk,hpr⟩:=PG.ex;refine ⟨_,rfl,p,_,_,.ref pk,rfl,rfl,aQ.of hp,rfl,?_⟩;refine ⟨_,rfl,d,l,4,rfl,D,by decide,by decide,fun f H1 f0 f1 D1 o1=>?_⟩;have t1:=TS.out D o1;replace hp:=t1 _ _ hp;replace hk:=t1 _ _ hk;have PG1:=PG.ts t1;refine ⟨_,rfl,rfl,_,rfl,?_⟩
 by_cases c0:f=0
 ·refine bD (af (by rw [c0])) ?_;refine ⟨_,rfl,av _,fun t ht=>?_⟩;have s2:=aA ht (.tup []);exact ⟨p,t,ks,[],rs,c,e,rfl,PG1.ts (.of s2),aC,by decide,hc,he,fun p' rs' H' s' P'=>k p' [] rs' H' (D1.same (s2.trans s')) (o1.trans (.of (s2.trans s'))) P' (av _)⟩
 refine aR (fun z=>c0 (by have z:=ag z;injection z)) ?_;refine ⟨_,rfl,rfl,_,rfl,?_⟩
 by_cases c1:f=1
 ·refine bD (af (by rw [c1])) ?_;refine ⟨_,rfl,pk,_,rfl,.inr (aQ.of hk),_,_,rfl,_,_,rfl,rfl,?_⟩;refine ⟨_,rfl,d,l,2,rfl,D1,by decide,by decide,fun x H2 x0 x1 D2 o2=>⟨_,_,rfl,rfl,?_⟩⟩;have t2:=TS.out D1 o2;replace hk:=t2 _ _ hk;have PG2:=PG1.ts t2;rw [aa];obtain ⟨n,hn,n5,nk⟩:∃ n:Nat,(4 - (if (ks.length:Int) < 4 then (ks.length:Int) else 4)+x)=(n:Int)/\n < 6/\ks.length+n<=ks.length+5:=by
   refine ⟨(4 - (if (ks.length:Int) < 4 then (ks.length:Int) else 4)+x).toNat,?_,?_,?_⟩ <;> split <;> lia
  have al:=aV6 n n5;refine ⟨(n:Int),by rw [<- hn],_,rfl,by decide +kernel,_,rfl,aK6 (x:=Txt.slice "abcde" none (some (n:Int))) (fun i ys σ G=>G=H2/\(∃ v,σ=[v])/\∃ zs:List Str,ys=zs.map V.str/\zs.length=i) (cE (by lia)) ⟨rfl,⟨_,rfl⟩,[],rfl,rfl⟩ (by rintro i ys σ G ⟨_,_,zs,e,e2⟩;rw [e,aa];lia) ?_ ?_⟩
  ·rintro i c ys σ G hcc ⟨rfl,⟨v,rfl⟩,zs,rfl,zl⟩;refine ⟨_,rfl,_,_,rfl,rfl,by rw [aT4];decide +kernel,rfl,⟨_,rfl⟩,zs++[("more": Str)++⟨#[c]⟩],by rw [bg];rfl,by rw [ak,zl];rfl⟩
  rintro ys σ G ⟨rfl,_,zs,rfl,zl⟩ l3 hl3;obtain ⟨H3,e0,s3,g3⟩:=hV hl3 (.lst (zs.map V.str));rw [e0];clear e0;refine ⟨l3,_,rfl,.inl ⟨bI.of g3,fun t4 ht4=>?_⟩⟩;have s4:=s3.trans (aA ht4 (.tup (zs.map V.str)));have g4:aJ H3 t4 (.tup (zs.map V.str)) t4=some (.tup (zs.map V.str)):=aC;generalize aJ H3 t4 (.tup (zs.map V.str))=H4 at s4 g4 ⊢;refine ⟨_,rfl,_,rfl,_,rfl,pk,t4,_,_,rfl,rfl,s4 _ _ hk,g4,bu (cE (by rw [aa,aa];lia)),fun r5 H5 s5 g5=>?_⟩;rw [<- bg] at g5;have s45:=s4.trans s5;exact ⟨p,r5,ks,ks++zs,rs,c,e,rfl,PG2.ts (.of s45),g5,by rw [ak];lia,hc,he,fun p' rs' H' s' P'=>k p' (ks++zs) rs' H' (D2.same (s45.trans s')) (o1.trans (o2.trans (.of (s45.trans s')))) P' (by rw [ak];lia)⟩
 refine aR (fun z=>c1 (by have z:=ag z;injection z)) ?_;refine ⟨_,rfl,pk,_,rfl,.inr (aQ.of hk),rfl,_,rfl,?_⟩
 by_cases c2:ks.length=0
 ·refine bD (af (by rw [aa,c2];rfl)) ⟨_,rfl,?_⟩;exact k p ks rs H1 D1 o1 PG1 (by (exact oqI))
 refine aR (fun z=>c2 (by have z:=ag z;injection z with z;rw [aa] at z;lia)) ?_;refine ⟨_,rfl,_,rfl,_,rfl,pk,_,rfl,.inr (aQ.of hk),d,l,_,rfl,D1,by rw [aa];lia,by rw [aa];(exact oqq),fun x H2 x0 x1 D2 o2=>?_⟩;have t2:=TS.out D1 o2;replace hk:=t2 _ _ hk;obtain ⟨v,hv,ha⟩:=eV (xs:=ks.map V.str) x0 x1;obtain ⟨w,rfl,hw⟩:=eT hv;refine ⟨pk,_,_,.str w,rfl,rfl,aQ.of hk,ha,?_⟩;refine ⟨_,rfl,_,rfl,pk,_,rfl,.inr (aQ.of hk),_,_,rfl,rfl,d,l,_,rfl,D2,by rw [aa];lia,by rw [aa];lia,fun y H3 y0 y1 D3 o3=>?_⟩;have t3:=TS.out D2 o3;replace hk:=t3 _ _ hk;have PG3:=(PG1.ts t2).ts t3;rw [aa] at y1;refine ⟨_,rfl,_,rfl,_,rfl,y,rfl,pk,_,rfl,hk,fun r4 H4 s4 g4=>?_⟩;refine ⟨_,rfl,eQ,fun t5 ht5=>?_⟩;have s5:=aA ht5 (.tup [.str w]);have g5:aJ H4 t5 (.tup [.str w]) t5=some (.tup [.str w]):=aC;have h5:=s5 _ _ g4;generalize aJ H4 t5 (.tup [.str w])=H5 at s5 g5 h5 ⊢
 have c3:=gK (ks.map V.str) none (some y);rw [aa] at c3;refine ⟨r4,t5,_,_,rfl,rfl,h5,g5,bu (cE (by show _+1<=_;lia)),fun r6 H6 s6 g6=>?_⟩;have s46:=s4.trans (s5.trans s6);refine ⟨_,rfl,_,rfl,_,rfl,_,_,rfl,rfl,_,_,rfl,rfl,_,rfl,pk,_,rfl,s46 _ _ hk,fun r7 H7 s7 g7=>?_⟩;have yp:((y.toNat:Nat):Int)=y:=by lia
 have e1:fE (ks.map V.str) none (some y)=(ks.take y.toNat).map V.str:=by rw [bJ3 (by assumption) (by rw [aa];lia),nt]
 have e2:fE (ks.map V.str) (some (y+f - 2)) none=(ks.drop (y+f - 2).toNat).map V.str:=by
  rw [vx,show (y+f - 2)=(((y+f - 2).toNat:Nat):Int) by lia,lE,mj]
 rw [e1] at g6;rw [e2] at g7;refine ⟨r6,r7,_,_,rfl,rfl,s7 _ _ g6,g7,bu (cE ?_),fun r8 H8 s8 g8=>?_⟩
 ·simp only [List.length_append,List.length_map,List.length_take,List.length_drop,List.length_cons,List.length_nil];lia
 have g8:H8 r8=some (.tup ((ks.take y.toNat++[w]++ks.drop (y+f - 2).toNat).map V.str)):=by rw [g8];simp only [List.map_append,List.map_cons,List.map_nil]
 have nl:(ks.take y.toNat++[w]++ks.drop (y+f - 2).toNat).length<=ks.length+5:=by
  simp only [List.length_append,List.length_map,List.length_take,List.length_drop,List.length_cons,List.length_nil];lia
 have s48:=s46.trans (s7.trans s8);exact ⟨p,r8,ks,_,rs,c,e,rfl,PG3.ts (.of s48),g8,by lia,hc,he,fun p' rs' H' s' P'=>k p' _ rs' H' (D3.same (s48.trans s')) (o1.trans (o2.trans (o3.trans (.of (s48.trans s'))))) P' nl⟩
theorem bC4 (n:Nat) (C_OTm:Cl P w K mg base (n+1) (oW n) "_law_other_term") (C_Draw:Cl P w K mg base 1 spDraw "_law_draw") (m_len:mg "len"=none):gN P w K mg base "_law_other_term" "_law_other_term" bM2 (n+1+1) ["_law_deal_here","_law_term_here","_law_names_here"] (oW (n+1)):=by
 refine iV ["_law_deal_here","_law_term_here","_law_names_here","_law_at","_law_other"] fun H Q nd hr h=>?_
 obtain ⟨d,l,nl,xs,t,rfl,D,N,ht,ok,hn,k⟩:=h;refine ⟨_,(aE (bE (dM bP (bV aI (pv 1) aD) aG) (eY 3 nd (aM bT aD (bW C_Draw hr (aB (pv 0) (aN aD))))
  (eY 4 nd (bW C_OTm hr (aB (pv 0) (aB (bV aI (pv 1) (pv 3)) (aN (pv 2)))))
  (aF (aU (aM cI (aM cI (bH bY (pv 1) bQ (bO (pv 3))) (aL (aN (pv 4)))) (bH bY (pv 1) (bO (aM bT (pv 3) aD)) bQ)))))) aO)
  (aF (aU (aL (aB aG (aN (bV cY (pv 2) (bW C_Draw hr (aB (pv 0) (aN (iK aW m_len bz (aN (pv 2))))))))))))),?_⟩
 refine ⟨_,rfl,t.p,_,_,.str t.w,rfl,rfl,aQ.of ht.at,fL,rfl,_,rfl,?_⟩;generalize hP:t.p=P
 cases t with
 |op p sg a b =>
  obtain rfl:p=P:=hP;refine bD (af rfl) ?_;simp only [Tm.deep] at hn;have a1:=a.deep_pos
  cases n with
  |zero=>exact absurd hn (by lia)
  |succ n =>
  refine ⟨_,rfl,d,l,2,rfl,D,by decide,by decide,fun x H1 x0 x1 D1 o1=>⟨_,_,rfl,rfl,?_⟩⟩;have t1:=TS.out D o1;rcases (show x=0\/x=1 by lia) with cx | cx
  ·subst cx;refine ⟨_,rfl,_,rfl,_,rfl,p,_,_,.ref a.p,rfl,rfl,aQ.of (t1 _ _ ht.1),rfl,_,rfl,d,l,nl,xs,a,rfl,D1,N.out D o1,jT.ts t1 ht.2.1,ok.2.1,by lia,fun t4 H4 D4 o4 h4 ok4 sz4=>?_⟩;have hp4:=TS.out D1 o4 _ _ (t1 _ _ ht.1);have ho4:=jT.ts (TS.out D1 o4) (jT.ts t1 ht.2.2);refine ⟨_,rfl,_,rfl,2,rfl,p,_,rfl,hp4,fun r5 H5 s5 g5=>?_⟩;have g5:H5 r5=some (.tup [.str "op",.str sg]):=g5;refine ⟨_,rfl,eQ,fun t6 ht6=>?_⟩;refine ⟨r5,t6,_,_,rfl,rfl,(aA ht6 (.tup [.ref t4.p])) _ _ g5,aC,by show 3<=sizeLine;decide,fun r7 H7 s7 g7=>?_⟩;have s57:=s5.trans ((aA ht6 (.tup [.ref t4.p])).trans s7);refine ⟨_,rfl,_,rfl,_,_,rfl,rfl,3,rfl,p,_,rfl,s57 _ _ hp4,fun r8 H8 s8 g8=>?_⟩;have g8:H8 r8=some (.tup [.ref b.p]):=g8;refine ⟨r7,r8,_,_,rfl,rfl,s8 _ _ g7,g8,by show 4<=sizeLine;decide,fun r9 H9 s9 g9=>?_⟩;have sF:=s57.trans (s8.trans s9);exact k (.op r9 sg t4 b) H9 (D4.same sF) (o1.trans (o4.trans (.of sF))) ⟨g9,jT.ts (.of sF) h4,jT.ts (.of sF) ho4⟩ ⟨ok.1,ok4,ok.2.2⟩ (by simp only [Tm.size];lia)
  ·subst cx;refine ⟨_,rfl,_,rfl,_,rfl,p,_,_,.ref b.p,rfl,rfl,aQ.of (t1 _ _ ht.1),rfl,_,rfl,d,l,nl,xs,b,rfl,D1,N.out D o1,jT.ts t1 ht.2.2,ok.2.2,by lia,fun t4 H4 D4 o4 h4 ok4 sz4=>?_⟩;have hp4:=TS.out D1 o4 _ _ (t1 _ _ ht.1);have ho4:=jT.ts (TS.out D1 o4) (jT.ts t1 ht.2.1);refine ⟨_,rfl,_,rfl,3,rfl,p,_,rfl,hp4,fun r5 H5 s5 g5=>?_⟩;have g5:H5 r5=some (.tup [.str "op",.str sg,.ref a.p]):=g5;refine ⟨_,rfl,eQ,fun t6 ht6=>?_⟩;refine ⟨r5,t6,_,_,rfl,rfl,(aA ht6 (.tup [.ref t4.p])) _ _ g5,aC,by show 4<=sizeLine;decide,fun r7 H7 s7 g7=>?_⟩;have s57:=s5.trans ((aA ht6 (.tup [.ref t4.p])).trans s7);refine ⟨_,rfl,_,rfl,_,_,rfl,rfl,4,rfl,p,_,rfl,s57 _ _ hp4,fun r8 H8 s8 g8=>?_⟩;have g8:H8 r8=some (.tup []):=g8;refine ⟨r7,r8,_,_,rfl,rfl,s8 _ _ g7,g8,by show 4<=sizeLine;decide,fun r9 H9 s9 g9=>?_⟩;have sF:=s57.trans (s8.trans s9);exact k (.op r9 sg a t4) H9 (D4.same sF) (o1.trans (o4.trans (.of sF))) ⟨g9,jT.ts (.of sF) ho4,jT.ts (.of sF) h4⟩ ⟨ok.1,ok.2.1,ok4⟩ (by simp only [Tm.size];lia)
 |nam p x =>
  refine aR (fun z=>bG2 (ag z)) ?_;have x1:=N.x1;have x2:=N.x2;refine ⟨_,rfl,_,rfl,_,rfl,nl,_,rfl,.inl (bI.of N.at_),d,l,_,rfl,D,by rw [aa];lia,by rw [aa];(exact oqq),fun x H1 x0 x1 D1 o1=>?_⟩;obtain ⟨v,hv,ha⟩:=eV (xs:=xs.map V.str) x0 x1;obtain ⟨w,rfl,hw⟩:=eT hv;refine ⟨nl,_,_,.str w,rfl,rfl,bI.of (N.out D o1).at_,ha,bJ,fun p hp=>?_⟩;have s2:=aA hp (.tup [.str "name",.str w]);exact k (.nam p w) _ (D1.same s2) (o1.trans (.of s2)) aC trivial (ai 1)
 |num p m =>
  refine aR (fun z=>bI9 (ag z)) ?_;have x1:=N.x1;have x2:=N.x2;refine ⟨_,rfl,_,rfl,_,rfl,nl,_,rfl,.inl (bI.of N.at_),d,l,_,rfl,D,by rw [aa];lia,by rw [aa];(exact oqq),fun x H1 x0 x1 D1 o1=>?_⟩;obtain ⟨v,hv,ha⟩:=eV (xs:=xs.map V.str) x0 x1;obtain ⟨w,rfl,hw⟩:=eT hv;refine ⟨nl,_,_,.str w,rfl,rfl,bI.of (N.out D o1).at_,ha,bJ,fun p hp=>?_⟩;have s2:=aA hp (.tup [.str "name",.str w]);exact k (.nam p w) _ (D1.same s2) (o1.trans (.of s2)) aC trivial (ai 1)
theorem bG0 (C_Draw:Cl P w K mg base 1 spDraw "_law_draw") (m_min:mg "min"=none) (m_max:mg "max"=none):gN P w K mg base "_law_other_throw" "_law_other_throw" bM0 2 ["_law_deal_here","_law_row"] spOThrow:=by
 refine iV ["_law_deal_here","_law_row","_law_low","_law_high","_law_menu","_law_mark","_law_b","_law_ends"] fun H Q nd hr h=>?_
 obtain ⟨d,l,p,w,x,us,am,rfl,D,hr0,k⟩:=h;refine ⟨_,(aE (fU (bH bY (pv 1) (bO (aN8 xI aD)) bQ) (eG rfl (aY (eO 2 nd) (aY (eO 3 nd) dN))))
  (aE (bE (dY (PW.pt (eR (dM bP (bV aI (pv 1) aD) aG) (eU (dM eW (bW C_Draw hr (aB (pv 0) (aN aD))) aD))))) (eY 4 nd (bS (aB (aL (aB (pv 2) (aN (bV aI (pv 1) aD)))) (aB (aL (aB (pv 3) (aN (bV aI (pv 1) aD)))) (aB (aL (aB (aM dP (pv 2) aD) (aN (bV aI (pv 1) aD)))) (aB (aL (aB (aM bT (pv 3) aD) (aN (bV aI (pv 1) aD)))) (aN (aL (aB (bV aI (pv 1) aD) (aN (aL (aB aD (aN aD))))))))))))
  (aE (fU (bV cY (aM fR (pv 4) (bS (aB (aL (aB (bV aI (pv 1) aD) (aN (aL (aB aD (aN aD)))))) (aN (aL (aB (bW C_Draw hr (aB (pv 0) (aN aD))) (aN (bV aI (pv 1) aD)))))))) (bW C_Draw hr (aB (pv 0) (aN aD)))) (eG rfl (aY (eO 5 nd) (aY (eO 6 nd) dN))))
  (aF (aU (aM cI (aM cI (bH bY (pv 1) bQ (bO aD)) (aL (aB (iK (rV rfl) m_min og (aB aD (aN (iK (sR rfl) m_max vf (aB aD (aN (pv 5))))))) (aB (bV aI (pv 1) aD) (aN (pv 6)))))) (bH bY (pv 1) (bO aD) bQ)))))) aO)
  (eY 7 nd (bV cY (bS (aB (aL (aB (pv 3) (aN (pv 2)))) (aB (aL (aB (pv 2) (aN (pv 2)))) (aB (aL (aB (pv 3) (aN (pv 3)))) (aN (aL (aB (bW C_Draw hr (aB (pv 0) (aN aD))) (aN (bW C_Draw hr (aB (pv 0) (aN aD))))))))))) (bW C_Draw hr (aB (pv 0) (aN aD))))
  (aF (aU (aM cI (bH bY (pv 1) bQ (bO (aN8 xI aD))) (pv 7))))))),?_⟩
 obtain ⟨us0,lo,hi,rfl,ul,endsOk⟩:=qB hr0.2;have hp:=hr0.1;refine ⟨_,rfl,2,rfl,-2,rfl,p,_,rfl,hp,fun r1 H1 s1 g1=>?_⟩;have g1:H1 r1=some (.tup [.int lo,.int hi]):=by rw [g1];exact dg (fun z=>some (HO.tup z)) (aK8 (xs:= .str w :: .str x :: us0))
 refine ⟨r1,_,rfl,aQ.of g1,rfl,_,_,rfl,_,_,rfl,rfl,?_⟩;refine ⟨fun b G=>cS G d l/\dZ d l H G/\(b=true->w="first"),?_,?_⟩
 ·refine ⟨_,rfl,p,_,_,.str w,rfl,rfl,aQ.of (s1 _ _ hp),fL,rfl,_,rfl,?_⟩
  by_cases c:w="first"
  ·exact bD (af (by rw [c])) ⟨_,rfl,d,l,3,rfl,D.same s1,by decide,by decide,fun y H2 y0 y1 D2 o2=>⟨_,_,rfl,rfl,_,rfl,D2,(dZ.of s1).trans o2,fun _=>c⟩⟩
  ·exact aR (fun z=>c (by have z:=ag z;injection z)) ⟨D.same s1,.of s1,fun z=>nomatch z⟩
 rintro b G ⟨D1,o1,hb⟩;have tA:=TS.out D o1;replace hr0:=cJ.ts tA _ hr0;replace hp:=tA _ _ hp
 cases b with
 |true =>
  refine bD rfl ?_;obtain rfl:=hb rfl;rcases hr0.2 with ⟨z,_⟩ | ⟨z,_⟩ | ⟨_,mark,a,q,c,lo',hi',xx,yy,eu,hq,sm,q0,q1,_⟩
  ·exact absurd z (by decide +kernel)
  ·exact absurd z (by decide +kernel)
  have e4:us0=[.int mark,a,.ref q,c]/\lo=lo'/\hi=hi':=by
   rcases us0 with _ | ⟨u1,_ | ⟨u2,_ | ⟨u3,_ | ⟨u4,_ | ⟨u5,r⟩⟩⟩⟩⟩ <;> simp at eu
   ·obtain ⟨rfl,rfl,rfl,rfl,rfl,rfl⟩:=eu;exact ⟨rfl,rfl,rfl⟩
   ·simp at ul
  obtain ⟨rfl,rfl,rfl⟩:=e4;have hp:G p=some (.tup [.str "first",.str x,.int mark,a,.ref q,c,.int lo,.int hi]):=hp;have D2:=D1;have o2:=o1;refine ⟨_,rfl,_,rfl,p,_,_,.ref q,rfl,rfl,aQ.of hp,rfl,bJ,fun m1 hm1=>?_⟩;have u1:=aA hm1 (.tup [.int (lo),.ref q]);have M1:pR (aJ G m1 (.tup [.int (lo),.ref q])) (.ref m1):=⟨m1,q,_,xx,yy,rfl,aC,u1 _ _ hq,q0,q1⟩
  replace hp:=u1 _ _ hp;replace hq:=u1 _ _ hq;replace sm:=sm.ts (.of u1);replace D2:=D2.same u1;replace o2:=o2.trans (.of u1);generalize aJ G m1 (.tup [.int (lo),.ref q])=G at M1 hp hq sm  D2 o2 ⊢;refine ⟨_,rfl,_,rfl,p,_,_,.ref q,rfl,rfl,aQ.of hp,rfl,bJ,fun m2 hm2=>?_⟩;have u2:=aA hm2 (.tup [.int (hi),.ref q]);have M2:pR (aJ G m2 (.tup [.int (hi),.ref q])) (.ref m2):=⟨m2,q,_,xx,yy,rfl,aC,u2 _ _ hq,q0,q1⟩
  replace hp:=u2 _ _ hp;replace hq:=u2 _ _ hq;replace sm:=sm.ts (.of u2);replace M1:=M1.ts (.of u2);replace D2:=D2.same u2;replace o2:=o2.trans (.of u2);generalize aJ G m2 (.tup [.int (hi),.ref q])=G at M2 hp hq sm M1 D2 o2 ⊢;refine ⟨_,rfl,_,_,rfl,rfl,_,rfl,p,_,_,.ref q,rfl,rfl,aQ.of hp,rfl,bJ,fun m3 hm3=>?_⟩;have u3:=aA hm3 (.tup [.int (lo - 1),.ref q]);have M3:pR (aJ G m3 (.tup [.int (lo - 1),.ref q])) (.ref m3):=⟨m3,q,_,xx,yy,rfl,aC,u3 _ _ hq,q0,q1⟩
  replace hp:=u3 _ _ hp;replace hq:=u3 _ _ hq;replace sm:=sm.ts (.of u3);replace M1:=M1.ts (.of u3);replace M2:=M2.ts (.of u3);replace D2:=D2.same u3;replace o2:=o2.trans (.of u3);generalize aJ G m3 (.tup [.int (lo - 1),.ref q])=G at M3 hp hq sm M1 M2 D2 o2 ⊢;refine ⟨_,rfl,_,_,rfl,rfl,_,rfl,p,_,_,.ref q,rfl,rfl,aQ.of hp,rfl,bJ,fun m4 hm4=>?_⟩;have u4:=aA hm4 (.tup [.int (hi+1),.ref q]);have M4:pR (aJ G m4 (.tup [.int (hi+1),.ref q])) (.ref m4):=⟨m4,q,_,xx,yy,rfl,aC,u4 _ _ hq,q0,q1⟩
  replace hp:=u4 _ _ hp;replace hq:=u4 _ _ hq;replace sm:=sm.ts (.of u4);replace M1:=M1.ts (.of u4);replace M2:=M2.ts (.of u4);replace M3:=M3.ts (.of u4);replace D2:=D2.same u4;replace o2:=o2.trans (.of u4);generalize aJ G m4 (.tup [.int (hi+1),.ref q])=G at M4 hp hq sm M1 M2 M3 D2 o2 ⊢;refine ⟨_,rfl,p,_,_,.int mark,rfl,rfl,aQ.of hp,rfl,bJ,fun n5 hn5=>⟨bJ,fun m5 hm5=>?_⟩⟩;have w5:=aA hn5 (.tup [.int 5,.int 9]);have u5:=w5.trans (aA hm5 (.tup [.int mark,.ref n5]));have M5:pR (aJ (aJ G n5 (.tup [.int 5,.int 9])) m5 (.tup [.int mark,.ref n5])) (.ref m5):=⟨m5,n5,_,5,9,rfl,aC,(aA hm5 (.tup [.int mark,.ref n5])) _ _ aC,by decide,by decide⟩
  replace hp:=u5 _ _ hp;replace hq:=u5 _ _ hq;replace sm:=sm.ts (.of u5);replace M1:=M1.ts (.of u5);replace M2:=M2.ts (.of u5);replace M3:=M3.ts (.of u5);replace M4:=M4.ts (.of u5);replace D2:=D2.same u5;replace o2:=o2.trans (.of u5);generalize aJ (aJ G n5 (.tup [.int 5,.int 9])) m5 (.tup [.int mark,.ref n5])=G at M5 hp hq sm M1 M2 M3 M4 D2 o2 ⊢;refine ⟨by show 5<=sizeLine;decide,fun ml hml=>?_⟩;have ul:=aA hml (.lst [.ref m1,.ref m2,.ref m3,.ref m4,.ref m5]);have gl:aJ G ml (.lst [.ref m1,.ref m2,.ref m3,.ref m4,.ref m5]) ml=some (.lst [.ref m1,.ref m2,.ref m3,.ref m4,.ref m5]):=aC;have nl:=(bZ D2 hml).2;replace hp:=ul _ _ hp;replace hq:=ul _ _ hq;replace sm:=sm.ts (.of ul);replace M1:=M1.ts (.of ul);replace M2:=M2.ts (.of ul);replace M3:=M3.ts (.of ul);replace M4:=M4.ts (.of ul);replace M5:=M5.ts (.of ul);replace D2:=D2.same ul;replace o2:=o2.trans (.of ul);generalize aJ G ml (.lst [.ref m1,.ref m2,.ref m3,.ref m4,.ref m5])=G at gl M1 M2 M3 M4 M5 hp hq sm D2 o2 ⊢
  refine ⟨_,rfl,_,rfl,p,_,_,.int mark,rfl,rfl,aQ.of hp,rfl,bJ,fun n6 hn6=>⟨bJ,fun m6 hm6=>?_⟩⟩;have w6:=aA hn6 (.tup [.int 1,.int 2]);have u6:=w6.trans (aA hm6 (.tup [.int mark,.ref n6]));have M6:pR (aJ (aJ G n6 (.tup [.int 1,.int 2])) m6 (.tup [.int mark,.ref n6])) (.ref m6):=⟨m6,n6,_,1,2,rfl,aC,(aA hm6 (.tup [.int mark,.ref n6])) _ _ aC,by decide,by decide⟩
  replace hp:=u6 _ _ hp;replace hq:=u6 _ _ hq;replace sm:=sm.ts (.of u6);replace M1:=M1.ts (.of u6);replace M2:=M2.ts (.of u6);replace M3:=M3.ts (.of u6);replace M4:=M4.ts (.of u6);replace M5:=M5.ts (.of u6);replace D2:=D2.same u6;replace o2:=o2.trans (.of u6);replace gl:=u6 _ _ gl;generalize aJ (aJ G n6 (.tup [.int 1,.int 2])) m6 (.tup [.int mark,.ref n6])=G at M6 hp hq sm M1 M2 M3 M4 M5 D2 o2 gl ⊢;refine ⟨_,rfl,d,l,10,rfl,D2,by decide,by decide,fun y G2 y0 y1 D3 o3=>?_⟩;have t3:=TS.out D2 o3;replace gl:=aV D2 gl nl o3;replace hp:=t3 _ _ hp;replace hq:=t3 _ _ hq;replace sm:=sm.ts t3;replace M1:=M1.ts t3;replace M2:=M2.ts t3;replace M3:=M3.ts t3;replace M4:=M4.ts t3;replace M5:=M5.ts t3;replace M6:=M6.ts t3;replace o2:=o2.trans o3;clear D2 t3 o3;have D2:=D3;refine ⟨_,rfl,p,_,_,.ref q,rfl,rfl,aQ.of hp,rfl,bJ,fun m7 hm7=>⟨bJ,fun mk hmk=>?_⟩⟩;have u7:=aA hm7 (.tup [.int y,.ref q]);have M7:pR (aJ G2 m7 (.tup [.int y,.ref q])) (.ref m7):=⟨m7,q,_,xx,yy,rfl,aC,u7 _ _ hq,q0,q1⟩
  have u8:=aA hmk (.lst [.ref m6,.ref m7]);have gk:aJ (aJ G2 m7 (.tup [.int y,.ref q])) mk (.lst [.ref m6,.ref m7]) mk=some (.lst [.ref m6,.ref m7]):=aC;replace M7:=M7.ts (.of u8);have u78:=u7.trans u8;replace hp:=u78 _ _ hp;replace hq:=u78 _ _ hq;replace gl:=u78 _ _ gl;replace sm:=sm.ts (.of u78);replace M1:=M1.ts (.of u78);replace M2:=M2.ts (.of u78);replace M3:=M3.ts (.of u78);replace M4:=M4.ts (.of u78);replace M5:=M5.ts (.of u78);replace M6:=M6.ts (.of u78);replace D2:=D2.same u78;replace o2:=o2.trans (.of u78);generalize aJ (aJ G2 m7 (.tup [.int y,.ref q])) mk (.lst [.ref m6,.ref m7])=G at gk gl M1 M2 M3 M4 M5 M6 M7 hp hq sm D2 o2 ⊢;refine ⟨ml,mk,_,_,rfl,rfl,gl,gk,by show 7<=sizeLine;decide,fun mz hmz=>?_⟩;have uz:=aA hmz (.lst ([.ref m1,.ref m2,.ref m3,.ref m4,.ref m5]++[.ref m6,.ref m7]));have gz:aJ G mz (.lst ([.ref m1,.ref m2,.ref m3,.ref m4,.ref m5]++[.ref m6,.ref m7])) mz=some (.lst [.ref m1,.ref m2,.ref m3,.ref m4,.ref m5,.ref m6,.ref m7]):=aC
  have nz:=(bZ D2 hmz).2;have MA:∀ v∈([.ref m1,.ref m2,.ref m3,.ref m4,.ref m5,.ref m6,.ref m7]:List V),pR G v:=by
   intro v hv;simp only [List.mem_cons,List.not_mem_nil,or_false] at hv;rcases hv with rfl | rfl | rfl | rfl | rfl | rfl | rfl <;> assumption
  clear M1 M2 M3 M4 M5 M6 M7 gl gk;replace MA:=fun v hv=>(MA v hv).ts (.of uz)
  replace hp:=uz _ _ hp;replace sm:=sm.ts (.of uz);replace D2:=D2.same uz;replace o2:=o2.trans (.of uz);generalize aJ G mz (.lst ([.ref m1,.ref m2,.ref m3,.ref m4,.ref m5]++[.ref m6,.ref m7]))=G at gz MA hp sm D2 o2 ⊢;refine ⟨_,rfl,d,l,7,rfl,D2,by decide,by decide,fun z G2 z0 z1 D3 o3=>?_⟩;have t3:=TS.out D2 o3;obtain ⟨v,hv,ha⟩:=eV (xs:=[V.ref m1,.ref m2,.ref m3,.ref m4,.ref m5,.ref m6,.ref m7]) z0 z1;obtain ⟨va,vb,mm,x9,y9,rfl,ga,gb,b0,b1⟩:=(MA v (ap hv)).ts t3;replace hp:=t3 _ _ hp;replace sm:=sm.ts t3;replace o2:=o2.trans o3;refine ⟨mz,_,_,.ref va,rfl,rfl,bI.of (aV D2 gz nz o3),ha,va,_,rfl,aQ.of ga,rfl,_,_,rfl,_,_,rfl,rfl,?_⟩;refine ⟨_,rfl,2,rfl,p,_,rfl,hp,fun r4 H4 s4 g4=>?_⟩;have g4:H4 r4=some (.tup [.str "first",.str x]):=g4;refine ⟨_,rfl,_,_,rfl,_,_,rfl,_,rfl,p,_,_,a,rfl,rfl,aQ.of (s4 _ _ hp),rfl,_,rfl,by show 3<=sizeLine;decide,fun t5 ht5=>?_⟩;refine ⟨r4,t5,_,_,rfl,rfl,aA ht5 _ _ _ g4,aC,by show 5<=sizeLine;decide,fun r6 H6 s6 g6=>?_⟩
  refine ⟨_,rfl,5,rfl,p,_,rfl,s6 _ _ (aA ht5 _ _ _ (s4 _ _ hp)),fun r7 H7 s7 g7=>?_⟩;have g7:H7 r7=some (.tup [c,.int lo,.int hi]):=g7;refine ⟨r6,r7,_,_,rfl,rfl,s7 _ _ g6,g7,by show 8<=sizeLine;decide,fun r8 H8 s8 g8=>?_⟩;have sF:bB G2 H8:=s4.trans ((aA ht5 _).trans (s6.trans (s7.trans s8)));exact k r8 [.int _,a,.ref vb,c,.int lo,.int hi] _ H8 (D3.same sF) (o2.trans (.of sF)) ⟨g8,.inr (.inr ⟨rfl,_,a,vb,c,lo,hi,x9,y9,rfl,sF _ _ gb,sm.ts (.of sF),b0,b1,rfl⟩)⟩
 |false =>
  refine aR (by simp) ?_;refine ⟨_,rfl,_,rfl,bJ,fun e1 he1=>?_⟩;have u1:=aA he1 (.tup [.int hi,.int lo]);have E1:xC (aJ G e1 (.tup [.int hi,.int lo])) (.ref e1):=⟨e1,_,_,rfl,aC⟩
  replace hp:=u1 _ _ hp;replace hr0:=cJ.ts (.of u1) _ hr0;replace D1:=D1.same u1;replace o1:=o1.trans (.of u1);generalize aJ G e1 (.tup [.int hi,.int lo])=G at E1 hp hr0  D1 o1 ⊢;refine ⟨_,rfl,_,rfl,bJ,fun e2 he2=>?_⟩;have u2:=aA he2 (.tup [.int lo,.int lo]);have E2:xC (aJ G e2 (.tup [.int lo,.int lo])) (.ref e2):=⟨e2,_,_,rfl,aC⟩
  replace hp:=u2 _ _ hp;replace hr0:=cJ.ts (.of u2) _ hr0;replace E1:=E1.ts (.of u2);replace D1:=D1.same u2;replace o1:=o1.trans (.of u2);generalize aJ G e2 (.tup [.int lo,.int lo])=G at E2 hp hr0 E1 D1 o1 ⊢;refine ⟨_,rfl,_,rfl,bJ,fun e3 he3=>?_⟩;have u3:=aA he3 (.tup [.int hi,.int hi]);have E3:xC (aJ G e3 (.tup [.int hi,.int hi])) (.ref e3):=⟨e3,_,_,rfl,aC⟩
  replace hp:=u3 _ _ hp;replace hr0:=cJ.ts (.of u3) _ hr0;replace E1:=E1.ts (.of u3);replace E2:=E2.ts (.of u3);replace D1:=D1.same u3;replace o1:=o1.trans (.of u3);generalize aJ G e3 (.tup [.int hi,.int hi])=G at E3 hp hr0 E1 E2 D1 o1 ⊢;refine ⟨_,rfl,d,l,10,rfl,D1,by decide,by decide,fun y G2 y0 y1 D2 o2=>⟨_,rfl,d,l,10,rfl,D2,by decide,by decide,fun z G3 z0 z1 D3 o3=>⟨bJ,fun e4 he4=>⟨by show 4<=sizeLine;decide,fun el hel=>?_⟩⟩⟩⟩;have nl:=(bZ (D3.same (aA he4 (.tup [.int y,.int z]))) hel).2;have u4:=aA he4 (.tup [.int y,.int z]);have u5:=aA hel (.lst [.ref e1,.ref e2,.ref e3,.ref e4]);have E4:xC (aJ (aJ G3 e4 (.tup [.int y,.int z])) el (.lst [.ref e1,.ref e2,.ref e3,.ref e4])) (.ref e4):=⟨e4,_,_,rfl,u5 _ _ aC⟩
  have gl:aJ (aJ G3 e4 (.tup [.int y,.int z])) el (.lst [.ref e1,.ref e2,.ref e3,.ref e4]) el=some (.lst [.ref e1,.ref e2,.ref e3,.ref e4]):=aC;have t5:=((TS.out D1 o2).trans (TS.out D2 o3)).trans (.of (u4.trans u5));replace hp:=t5 _ _ hp;replace hr0:=cJ.ts t5 _ hr0;replace E1:=E1.ts t5;replace E2:=E2.ts t5;replace E3:=E3.ts t5;replace D3:=D3.same (u4.trans u5);replace o1:=o1.trans (o2.trans (o3.trans (.of (u4.trans u5))));have MA:∀ v∈([.ref e1,.ref e2,.ref e3,.ref e4]:List V),xC (aJ (aJ G3 e4 (.tup [.int y,.int z])) el (.lst [.ref e1,.ref e2,.ref e3,.ref e4])) v:=by
   intro v hv;simp only [List.mem_cons,List.not_mem_nil,or_false] at hv;rcases hv with rfl | rfl | rfl | rfl <;> assumption
  clear E1 E2 E3 E4;generalize aJ (aJ G3 e4 (.tup [.int y,.int z])) el (.lst [.ref e1,.ref e2,.ref e3,.ref e4])=G at MA gl hp hr0 D3 o1 ⊢;refine ⟨_,rfl,d,l,4,rfl,D3,by decide,by decide,fun q G4 q0 q1 D4 o4=>?_⟩;obtain ⟨v,hv,ha⟩:=eV (xs:=[V.ref e1,.ref e2,.ref e3,.ref e4]) q0 q1;obtain ⟨va,i,j,rfl,ga⟩:=(MA v (ap hv)).ts (TS.out D3 o4);have t6:=TS.out D3 o4;replace hp:=t6 _ _ hp;replace hr0:=cJ.ts t6 _ hr0;refine ⟨el,_,_,.ref va,rfl,rfl,bI.of (aV D3 gl nl o4),ha,?_⟩;refine ⟨_,rfl,2,rfl,-2,rfl,p,_,rfl,hp,fun r6 H6 s6 g6=>?_⟩;have g6:H6 r6=some (.tup (.str w :: .str x :: us0)):=by rw [g6];exact dg (fun z=>some (HO.tup z)) (aL6 (xs:= .str w :: .str x :: us0))
  refine ⟨_,rfl,r6,va,_,_,rfl,rfl,g6,s6 _ _ ga,bu (cE (by simp only [List.length_cons,List.length_nil];lia)),fun r7 H7 s7 g7=>?_⟩;have sF:=s6.trans s7;obtain ⟨us1,lo1,hi1,e1,_,ok1⟩:=qB hr0.2;obtain ⟨e1,_⟩:=List.append_inj' e1 rfl;subst e1;obtain ⟨am',ok'⟩:=ok1 H7 i j (.of sF);exact k r7 _ am' H7 (D4.same sF) (o1.trans (o4.trans (.of sF))) ⟨g7,ok'⟩
theorem bG3 (C_Draw:Cl P w K mg base 1 spDraw "_law_draw") (C_OTh:Cl P w K mg base 2 spOThrow "_law_other_throw") (C_OTm:Cl P w K mg base 102 (oW 101) "_law_other_term") (m_len:mg "len"=none):gN P w K mg base "_law_otherwise" "_law_otherwise" bL5 103 ["_law_deal_here","_law_row","_law_names_here"] spOwise:=by
 refine iV ["_law_deal_here","_law_row","_law_names_here","_law_form","_law_word","_law_more","_law_blocks"] fun H Q nd hr h=>?_
 obtain ⟨d,l,nl,xs,r,rfl,D,N,hr0,ht,k⟩:=h;refine ⟨_,(@aE _ _ _ _ _ (kZ 3 nd (bW C_Draw hr (aB (pv 0) (aN aD))))
  (@aE _ _ _ _ _ (kZ 4 nd (bV cY (pv 2) (bW C_Draw hr (aB (pv 0) (aN (iK aW m_len bz (aN (pv 2))))))))
  (@aE _ _ _ _ _ (bE (dM mU (pv 3) aD) (eY 5 nd (aL (aB aG (aN (aL (aB aG (aN (bW C_Draw hr (aB (pv 0) (aN aD)))))))))
  (aF (aU (bV cY (bS (aB (aL cF) (aB (aL (aB (pv 1) (aN (pv 1)))) (aN (aL (aB (pv 1) (aN (pv 5)))))))) (pv 3))))) aO)
  (@aE _ _ _ _ _ (bE (dY (PW.pt (eR (dM bP (pv 3) aD) (eU (dM cU (bV aI (pv 1) aD) (@aL _ _ _ _ _ (@aB _ _ _ _ _ aG (@aB _ _ _ _ _ aG (@aB _ _ _ _ _ aG (@aB _ _ _ _ _ aG (@aB _ _ _ _ _ aG cF rfl) rfl) rfl) rfl) rfl))))))) (aF (aU (aL (aN (aM cI (aM cI (bH bY (pv 1) bQ (bO aD)) (aL (aN (pv 4)))) (bH bY (pv 1) (bO aD) bQ)))))) aO)
  (@aE _ _ _ _ _ (bE (dM cU (bV aI (pv 1) aD) (@aL _ _ _ _ _ (@aB _ _ _ _ _ aG (@aB _ _ _ _ _ aG (@aB _ _ _ _ _ aG (@aB _ _ _ _ _ aG cF rfl) rfl) rfl) rfl))) (aF (aU (aL (aN (bW C_OTh hr (aB (pv 0) (aN (pv 1)))))))) aO)
  (@aE _ _ _ _ _ (bE (dM bP (bV aI (pv 1) aD) aG) (aF (aU (aL (aN (aL (aB aG (aB (bV aI (pv 1) aD) (aN (bW C_OTm hr (aB (pv 0) (aB (bV aI (pv 1) aD) (aN (pv 2))))))))))))) aO)
  (@aE _ _ _ _ _ (bE (dM bP (bV aI (pv 1) aD) aG) (aF (aU (aL (aN (aL (aB aG (aN (bW C_OTm hr (aB (pv 0) (aB (bV aI (pv 1) aD) (aN (pv 2)))))))))))) aO)
  (@aE _ _ _ _ _ (bE (dM bP (bV aI (pv 1) aD) aG) (aF (aU (aL (aN (aL (aB aG (aB (aM bT aD (bW C_Draw hr (aB (pv 0) (aN aD)))) (aN (bV aI (pv 1) aD))))))))) aO)
  (@aE _ _ _ _ _ (bE (dM bP (pv 3) aD) (aF (aU (aL (aN (aM cI (aL (aB aG (aN (bW C_OTm hr (aB (pv 0) (aB (bV aI (pv 1) aD) (aN (pv 2)))))))) (bH bY (pv 1) (bO aD) bQ)))))) aO)
  (@aE _ _ _ _ _ (kZ 6 nd (bV cY (bS (aB (aL (aB (bV aI (pv 1) aD) (aN (bV aI (pv 1) aD)))) (aB (aL (aB (bV aI (pv 1) aD) (aN (aL cF)))) (aN (aL (aB (aL cF) (aN (bV aI (pv 1) aD)))))))) (bW C_Draw hr (aB (pv 0) (aN aD)))))
  (@aF _ _ _ (aU (aL (aN (aM cI (bH bY (pv 1) bQ (bO aD)) (pv 6)))))))))))))))),?_⟩
 have kk:∀ (v:V) (H':Hp),cS H' d l->dZ d l H H'->OwH r H' v->Q v H':=by
  rintro v H' D' o' ⟨q,ss,rfl,g,R,T,c,e⟩;exact k q ss H' D' o' g R T c e
 clear k;have cp:=r.cnt_pos;have x1:=N.x1;have x2:=N.x2;refine ⟨_,rfl,d,l,7,rfl,D,by decide,by decide,fun f H1 f0 f1 D1 o1=>?_⟩;replace hr0:=cJ.ts (TS.out D o1) r hr0;replace N:=N.out D o1;refine ⟨_,rfl,_,rfl,_,rfl,nl,_,rfl,.inl (bI.of N.at_),d,l,_,rfl,D1,by rw [aa];lia,by rw [aa];(exact oqq),fun y H2 y0 y1 D2 o2=>?_⟩;replace hr0:=cJ.ts (TS.out D1 o2) r hr0;replace N:=N.out D1 o2;replace o2:=o1.trans o2;clear o1 D1;obtain ⟨v,hv,ha⟩:=eV (xs:=xs.map V.str) y0 y1;obtain ⟨wd,rfl,hw⟩:=eT hv;refine ⟨nl,_,_,.str wd,rfl,rfl,bI.of N.at_,ha,?_⟩;refine ⟨_,rfl,_,_,rfl,rfl,_,rfl,?_⟩
 by_cases c3:f < 3
 ·refine bD (af c3) ?_;refine ⟨_,rfl,d,l,10,rfl,D2,by decide,by decide,fun z H3 z0 z1 D3 o3=>⟨bJ,fun a ha=>⟨bJ,fun b hb=>?_⟩⟩⟩;have u1:=(aA ha (.tup [.str "num",.int z])).trans (aA hb (.tup [.str "tell",.ref a]));have hM:cJ (aJ (aJ H3 a (.tup [.str "num",.int z])) b (.tup [.str "tell",.ref a])) (.tell b (.num a z)):=⟨aC,(aA hb (.tup [.str "tell",.ref a])) _ _ aC,⟨by assumption,by lia⟩,by show 1<=100;decide⟩
  replace hr0:=cJ.ts ((TS.out D2 o3).trans (.of u1)) r hr0;replace D3:=D3.same u1;replace o2:=o2.trans (o3.trans (.of u1));clear u1;generalize aJ (aJ H3 a (.tup [.str "num",.int z])) b (.tup [.str "tell",.ref a])=G at hM hr0 D3 o2 ⊢;refine ⟨av _,fun e0 he0=>⟨_,rfl,_,rfl,bJ,fun e1 he1=>⟨_,rfl,_,rfl,bJ,fun e2 he2=>⟨by show 3<=sizeLine;decide,fun el hel=>?_⟩⟩⟩⟩;have v0:=aA he0 (.tup []);have v1:=aA he1 (.tup [.ref r.p,.ref r.p]);have v2:=aA he2 (.tup [.ref r.p,.ref b]);have v3:=aA hel (.lst [.ref e0,.ref e1,.ref e2]);have tA:=v0.trans (v1.trans (v2.trans v3));have RA:=cJ.ts (.of tA) r hr0;have O0:OwH r _ (.ref e0):=OwH.ts (.of (v1.trans (v2.trans v3))) ⟨e0,[],rfl,aC,trivial,trivial,av _,av _⟩;have O1:OwH r _ (.ref e1):=OwH.ts (.of (v2.trans v3)) ⟨e1,[r,r],rfl,aC,⟨cJ.ts (.of (v0.trans v1)) r hr0,cJ.ts (.of (v0.trans v1)) r hr0,trivial⟩,⟨ht,ht,trivial⟩,by simp only [aP];lia,by simp only [dI];lia⟩
  have O2:OwH r _ (.ref e2):=OwH.ts (.of v3) ⟨e2,[r,.tell b (.num a z)],rfl,aC,⟨cJ.ts (.of (v0.trans (v1.trans v2))) r hr0,cJ.ts (.of (v0.trans (v1.trans v2))) _ hM,trivial⟩,⟨ht,trivial,trivial⟩,by simp only [aP,Rw.cnt];lia,by simp only [dI,Rw.dp];lia⟩;have MA:∀ v∈([.ref e0,.ref e1,.ref e2]:List V),OwH r (aJ (aJ (aJ (aJ G e0 (.tup [])) e1 (.tup [.ref r.p,.ref r.p])) e2 (.tup [.ref r.p,.ref b])) el (.lst [.ref e0,.ref e1,.ref e2])) v:=by
   intro v hv;simp only [List.mem_cons,List.not_mem_nil,or_false] at hv;rcases hv with rfl | rfl | rfl
   ·exact O0
   ·exact O1
   ·exact O2
  obtain ⟨v,hv,ha⟩:=eV (xs:=[V.ref e0,.ref e1,.ref e2]) f0 (by show f < 3;exact c3);exact ⟨_,rfl,el,_,_,v,rfl,rfl,bI.of aC,ha,kk v _ (D3.same tA) (o2.trans (.of tA)) (MA v (ap hv))⟩
 refine aR (fun z=>c3 (ag z)) ?_;refine ⟨fun b G=>bB H2 G/\(b=true->r.w∈oO),?_,?_⟩
 ·refine ⟨_,rfl,rfl,_,rfl,?_⟩
  by_cases c:f=3
  ·refine bD (af (by rw [c])) ?_;refine ⟨_,rfl,r.p,_,_,.str r.w,rfl,rfl,aQ.of hr0.at,fL,by show 5<=sizeLine;decide,fun t3 ht3=>?_⟩;obtain ⟨H3,e0,s3,gt3⟩:=hV ht3 (.tup [.str "ladder",.str "flat",.str "choose",.str "first",.str "let"]);rw [e0];clear e0;refine ⟨t3,[.str "ladder",.str "flat",.str "choose",.str "first",.str "let"],rfl,.inr (aQ.of gt3),rfl,by decide,_,rfl,?_⟩;exact ⟨s3,fun z=>ag ((aA9 r.w).symm.trans z)⟩
  ·exact aR (fun z=>c (by have z:=ag z;injection z)) ⟨bB.refl _,fun z=>nomatch z⟩
 rintro bb G ⟨s3,hb⟩;replace hr0:=cJ.ts (.of s3) r hr0;replace N:=N.same s3;replace D2:=D2.same s3;replace o2:=o2.trans (.of s3);clear s3;have hp:=hr0.at
 cases bb with
 |true =>
  refine bD rfl ?_;refine ⟨_,rfl,1,rfl,r.p,_,rfl,hp,fun r4 H4 s4 g4=>?_⟩;rw [aQ5] at g4;refine ⟨_,rfl,eQ,fun t5 ht5=>?_⟩;refine ⟨r4,t5,_,_,rfl,rfl,(aA ht5 (.tup [.str wd])) _ _ g4,aC,bJ,fun r6 H6 s6 g6=>?_⟩;have s46:=s4.trans ((aA ht5 (.tup [.str wd])).trans s6);refine ⟨_,rfl,2,rfl,r.p,_,rfl,s46 _ _ hp,fun r7 H7 s7 g7=>?_⟩;have wm:=hb rfl;have s47:=s46.trans s7;replace g6:=s7 _ _ g6;clear s46
  cases r with
  |thr p w x us am =>
   have g7:H7 r7=some (.tup us):=by rw [g7];exact dg (fun z=>some (HO.tup z)) (aT9 _ _ us)
   have ul:=aS6 hr0.2;refine ⟨r6,r7,_,_,rfl,rfl,g6,g7,bu (cE (by show 2+us.length<=_;lia)),fun r8 H8 s8 g8=>?_⟩;have sF:=s47.trans s8;replace D2:=D2.same sF;replace o2:=o2.trans (.of sF);refine ⟨eQ,fun tz htz=>kk (.ref tz) _ (D2.same (aA htz _)) (o2.trans (.of (aA htz _))) (kO (r':=Rw.thr r8 w wd us am) htz ⟨g8,hr0.2.ts (.of sF)⟩ trivial (by simp only [Rw.cnt];(exact df _)) (by simp only [Rw.dp];(exact ai _)))⟩
  |lt p x t =>
   have g7:H7 r7=some (.tup [.ref t.p]):=g7;refine ⟨r6,r7,_,_,rfl,rfl,g6,g7,by show 3<=sizeLine;decide,fun r8 H8 s8 g8=>?_⟩;have sF:=s47.trans s8;replace D2:=D2.same sF;replace o2:=o2.trans (.of sF);refine ⟨eQ,fun tz htz=>kk (.ref tz) _ (D2.same (aA htz _)) (o2.trans (.of (aA htz _))) (kO (r':=Rw.lt r8 wd t) htz ⟨g8,hr0.2.1.ts (.of sF),hr0.2.2⟩ trivial (by simp only [Rw.cnt];(exact df _)) (by simp only [Rw.dp];(exact ai _)))⟩
  |tell p t=>exact absurd wm (show ¬ (("tell": Str)∈oO) by decide +kernel)
  |when p pa pb t a b=>exact absurd wm (show ¬ (("when": Str)∈oO) by decide +kernel)
  |times p pb n b=>exact absurd wm (show ¬ (("times": Str)∈oO) by decide +kernel)
 |false =>
  refine aR (by simp) ?_;clear hb;refine ⟨_,rfl,r.p,_,_,.str r.w,rfl,rfl,aQ.of hp,fL,by show 4<=sizeLine;decide,fun t4 ht4=>?_⟩;obtain ⟨H4,e0,s4,gt4⟩:=hV ht4 (.tup [.str "ladder",.str "flat",.str "choose",.str "first"]);rw [e0];clear e0;refine ⟨t4,[.str "ladder",.str "flat",.str "choose",.str "first"],rfl,.inr (aQ.of gt4),rfl,by decide,_,rfl,?_⟩;replace hr0:=cJ.ts (.of s4) r hr0;replace N:=N.same s4;replace D2:=D2.same s4;replace o2:=o2.trans (.of s4);clear s4 gt4 hp;generalize hP:r.p=P
  cases r with
  |thr p w x us am =>
   obtain rfl:p=P:=hP;refine bD ((wG w).trans (af hr0.2.w)) ?_;refine ⟨_,rfl,_,rfl,d,l,p,w,x,us,am,rfl,D2,hr0,fun p5 us5 am5 H5 D5 o5 h5=>?_⟩;replace o2:=o2.trans o5;refine ⟨eQ,fun tz htz=>kk (.ref tz) _ (D5.same (aA htz _)) (o2.trans (.of (aA htz _))) (kO (r':=Rw.thr p5 w x us5 am5) htz h5 trivial (by simp only [Rw.cnt];(exact df _)) (by simp only [Rw.dp];(exact ai _)))⟩
  |lt p x t =>
   obtain rfl:p=P:=hP;refine aR (fun z=>absurd (show ("let": Str)∈dF from ag ((wG "let").symm.trans z)) (by decide +kernel)) ?_;refine ⟨_,rfl,p,_,_,.str "let",rfl,rfl,aQ.of hr0.1,fL,rfl,_,rfl,bD (af rfl) ?_⟩;have ts:=t.deep_size;have tz:=hr0.2.2.2;refine ⟨_,rfl,p,_,_,.str x,rfl,rfl,aQ.of hr0.1,rfl,_,rfl,_,rfl,p,_,_,.ref t.p,rfl,rfl,aQ.of hr0.1,rfl,_,rfl,d,l,nl,xs,t,rfl,D2,N,hr0.2.1,hr0.2.2.1,by show t.deep<=101;lia,fun t5 H5 D5 o5 h5 ok5 sz5=>⟨by show 3<=sizeLine;decide,fun q hq=>?_⟩⟩;have s6:=aA hq (.tup [.str "let",.str x,.ref t5.p]);replace D5:=D5.same s6;replace o2:=o2.trans (o5.trans (.of s6));refine ⟨eQ,fun tz htz=>kk (.ref tz) _ (D5.same (aA htz _)) (o2.trans (.of (aA htz _))) (kO (r':=Rw.lt q x t5) htz ⟨aC,h5.ts (.of s6),ok5,by (exact oqj)⟩ trivial (by simp only [Rw.cnt];(exact df _)) (by simp only [Rw.dp];(exact ai _)))⟩
  |tell p t =>
   obtain rfl:p=P:=hP;refine aR (fun z=>absurd (show ("tell": Str)∈dF from ag ((wG "tell").symm.trans z)) (by decide +kernel)) ?_;refine ⟨_,rfl,p,_,_,.str "tell",rfl,rfl,aQ.of hr0.1,fL,rfl,_,rfl,aR (by decide +kernel) ?_⟩;refine ⟨_,rfl,p,_,_,.str "tell",rfl,rfl,aQ.of hr0.1,fL,rfl,_,rfl,bD (af rfl) ?_⟩;have ts:=t.deep_size;have tz:=hr0.2.2.2;refine ⟨_,rfl,_,rfl,p,_,_,.ref t.p,rfl,rfl,aQ.of hr0.1,rfl,_,rfl,d,l,nl,xs,t,rfl,D2,N,hr0.2.1,hr0.2.2.1,by show t.deep<=101;lia,fun t5 H5 D5 o5 h5 ok5 sz5=>⟨bJ,fun q hq=>?_⟩⟩;have s6:=aA hq (.tup [.str "tell",.ref t5.p]);replace D5:=D5.same s6;replace o2:=o2.trans (o5.trans (.of s6));refine ⟨eQ,fun tz htz=>kk (.ref tz) _ (D5.same (aA htz _)) (o2.trans (.of (aA htz _))) (kO (r':=Rw.tell q t5) htz ⟨aC,h5.ts (.of s6),ok5,by (exact oqj)⟩ trivial (by simp only [Rw.cnt];(exact df _)) (by simp only [Rw.dp];(exact ai _)))⟩
  |times p pb n b =>
   obtain rfl:p=P:=hP;refine aR (fun z=>absurd (show ("times": Str)∈dF from ag ((wG "times").symm.trans z)) (by decide +kernel)) ?_;refine ⟨_,rfl,p,_,_,.str "times",rfl,rfl,aQ.of hr0.1,fL,rfl,_,rfl,aR (by decide +kernel) ?_⟩;refine ⟨_,rfl,p,_,_,.str "times",rfl,rfl,aQ.of hr0.1,fL,rfl,_,rfl,aR (by decide +kernel) ?_⟩;refine ⟨_,rfl,p,_,_,.str "times",rfl,rfl,aQ.of hr0.1,fL,rfl,_,rfl,bD (af rfl) ?_⟩;refine ⟨_,rfl,d,l,3,rfl,D2,by decide,by decide,fun z H5 z0 z1 D5 o5=>⟨_,_,rfl,rfl,?_⟩⟩;have t5:=TS.out D2 o5;refine ⟨_,rfl,p,_,_,.ref pb,rfl,rfl,aQ.of (t5 _ _ hr0.1),rfl,by show 3<=sizeLine;decide,fun q hq=>?_⟩;have s6:=aA hq (.tup [.str "times",.int (1+z),.ref pb]);replace D5:=D5.same s6;replace o2:=o2.trans (o5.trans (.of s6));refine ⟨eQ,fun tz htz=>kk (.ref tz) _ (D5.same (aA htz _)) (o2.trans (.of (aA htz _))) (kO (r':=Rw.times q pb (1+z) b) htz ⟨aC,s6 _ _ (t5 _ _ hr0.2.1),aX.ts (.of s6) b (aX.ts t5 b hr0.2.2)⟩ ⟨by lia,by lia,ht.2.2⟩ (by simp only [Rw.cnt];lia) (by simp only [Rw.dp];(exact ai _)))⟩
  |when p pa pb t a b =>
   obtain rfl:p=P:=hP;refine aR (fun z=>absurd (show ("when": Str)∈dF from ag ((wG "when").symm.trans z)) (by decide +kernel)) ?_;refine ⟨_,rfl,p,_,_,.str "when",rfl,rfl,aQ.of hr0.1,fL,rfl,_,rfl,aR (by decide +kernel) ?_⟩;refine ⟨_,rfl,p,_,_,.str "when",rfl,rfl,aQ.of hr0.1,fL,rfl,_,rfl,aR (by decide +kernel) ?_⟩;refine ⟨_,rfl,p,_,_,.str "when",rfl,rfl,aQ.of hr0.1,fL,rfl,_,rfl,aR (by decide +kernel) ?_⟩;obtain ⟨hp,tm,tf,ga,gb,ra,rb⟩:=hr0;refine ⟨_,rfl,rfl,_,rfl,?_⟩
   by_cases c:f=3
   ·refine bD (af (by rw [c])) ?_;have ts:=t.deep_size;have tz:=tf.2;refine ⟨_,rfl,_,rfl,p,_,_,.ref t.p,rfl,rfl,aQ.of hp,rfl,_,rfl,d,l,nl,xs,t,rfl,D2,N,tm,tf.1,by show t.deep<=101;lia,fun t5 H5 D5 o5 h5 ok5 sz5=>⟨bJ,fun q hq=>?_⟩⟩;have s6:=aA hq (.tup [.str "when",.ref t5.p]);have g6:aJ H5 q (.tup [.str "when",.ref t5.p]) q=some (.tup [.str "when",.ref t5.p]):=aC;have tt:=(TS.out D2 o5).trans (.of s6);replace h5:=h5.ts (.of s6);replace D5:=D5.same s6;replace o2:=o2.trans (o5.trans (.of s6));generalize aJ H5 q (.tup [.str "when",.ref t5.p])=H6 at g6 tt h5 D5 o2 ⊢;refine ⟨_,rfl,2,rfl,p,_,rfl,tt _ _ hp,fun r7 H7 s7 g7=>?_⟩;have g7:H7 r7=some (.tup [.ref pa,.ref pb]):=g7;refine ⟨q,r7,_,_,rfl,rfl,s7 _ _ g6,g7,by show 4<=sizeLine;decide,fun r8 H8 s8 g8=>?_⟩;have sF:=s7.trans s8;have tF:=tt.trans (.of sF);replace D5:=D5.same sF;replace o2:=o2.trans (.of sF);refine ⟨eQ,fun tz htz=>kk (.ref tz) _ (D5.same (aA htz _)) (o2.trans (.of (aA htz _))) (kO (r':=Rw.when r8 pa pb t5 a b) htz ⟨g8,h5.ts (.of sF),⟨ok5,by (exact oqj)⟩,tF _ _ ga,tF _ _ gb,aX.ts tF a ra,aX.ts tF b rb⟩ ht (by simp only [Rw.cnt];lia) (by simp only [Rw.dp];(exact ai _)))⟩
   refine aR (fun z=>c (by have z:=ag z;injection z)) ?_;have i2:∀ {G':Hp},TS H4 G'->G' p=some (.tup [.str "when",.ref t.p,.ref pa,.ref pb]):=fun t=>t _ _ hp
   refine ⟨_,rfl,p,_,_,.ref pb,rfl,rfl,aQ.of hp,rfl,_,rfl,p,_,_,.ref pa,rfl,rfl,aQ.of hp,rfl,bJ,fun e1 he1=>?_⟩;have v1:=aA he1 (.tup [.ref pb,.ref pa]);refine ⟨_,rfl,p,_,_,.ref pa,rfl,rfl,aQ.of (v1 _ _ hp),rfl,av _,fun n2 hn2=>⟨bJ,fun e2 he2=>?_⟩⟩;have v2:=aA hn2 (.tup []);have v3:=aA he2 (.tup [.ref pa,.ref n2]);refine ⟨av _,fun n3 hn3=>?_⟩;have v4:=aA hn3 (.tup []);refine ⟨_,rfl,p,_,_,.ref pb,rfl,rfl,aQ.of ((v1.trans (v2.trans (v3.trans v4))) _ _ hp),rfl,bJ,fun e3 he3=>⟨by show 3<=sizeLine;decide,fun el hel=>?_⟩⟩;have v5:=aA he3 (.tup [.ref n3,.ref pb]);have v6:=aA hel (.lst [.ref e1,.ref e2,.ref e3]);have v46:=v4.trans (v5.trans v6);have v26:=v2.trans (v3.trans v46);have v16:=v1.trans v26;have O1:xZ (aP a+aP b) (max (dI a) (dI b)) _ (.ref e1):=⟨e1,pb,pa,b,a,rfl,v26 _ _ aC,v16 _ _ gb,v16 _ _ ga,aX.ts (.of v16) b rb,aX.ts (.of v16) a ra,ht.2,ht.1,by lia,by lia,by lia⟩
   have O2:xZ (aP a+aP b) (max (dI a) (dI b)) _ (.ref e2):=⟨e2,pa,n2,a,[],rfl,v46 _ _ aC,v16 _ _ ga,(v3.trans v46) _ _ aC,aX.ts (.of v16) a ra,trivial,ht.1,trivial,by simp only [aP];lia,by lia,by simp only [dI];(exact av _)⟩
   have O3:xZ (aP a+aP b) (max (dI a) (dI b)) _ (.ref e3):=⟨e3,n3,pb,[],b,rfl,v6 _ _ aC,(v5.trans v6) _ _ aC,v16 _ _ gb,trivial,aX.ts (.of v16) b rb,trivial,ht.2,by simp only [aP];lia,by simp only [dI];(exact av _),by lia⟩
   have MA:∀ v∈([.ref e1,.ref e2,.ref e3]:List V),xZ (aP a+aP b) (max (dI a) (dI b)) (aJ (aJ (aJ (aJ (aJ (aJ H4 e1 (.tup [.ref pb,.ref pa])) n2 (.tup [])) e2 (.tup [.ref pa,.ref n2])) n3 (.tup [])) e3 (.tup [.ref n3,.ref pb])) el (.lst [.ref e1,.ref e2,.ref e3])) v:=by
    intro v hv;simp only [List.mem_cons,List.not_mem_nil,or_false] at hv;rcases hv with rfl | rfl | rfl
    ·exact O1
    ·exact O2
    ·exact O3
   clear O1 O2 O3;have nl9:=(bZ (D2.same (v1.trans (v2.trans (v3.trans (v4.trans v5))))) hel).2;have gl:aJ (aJ (aJ (aJ (aJ (aJ H4 e1 (.tup [.ref pb,.ref pa])) n2 (.tup [])) e2 (.tup [.ref pa,.ref n2])) n3 (.tup [])) e3 (.tup [.ref n3,.ref pb])) el (.lst [.ref e1,.ref e2,.ref e3]) el=some (.lst [.ref e1,.ref e2,.ref e3]):=aC;replace D2:=D2.same v16;replace o2:=o2.trans (.of v16);replace hp:=v16 _ _ hp;replace tm:=tm.ts (.of v16);clear v1 v2 v3 v4 v5 v6 v46 v26;generalize aJ (aJ (aJ (aJ (aJ (aJ H4 e1 (.tup [.ref pb,.ref pa])) n2 (.tup [])) e2 (.tup [.ref pa,.ref n2])) n3 (.tup [])) e3 (.tup [.ref n3,.ref pb])) el (.lst [.ref e1,.ref e2,.ref e3])=G5 at MA gl D2 o2 hp tm ⊢;refine ⟨_,rfl,d,l,3,rfl,D2,by decide,by decide,fun z H6 z0 z1 D6 o6=>?_⟩;have t6:=TS.out D2 o6;obtain ⟨v,hv,ha⟩:=eV (xs:=[V.ref e1,.ref e2,.ref e3]) z0 z1;obtain ⟨q,qa,qb,a',b',rfl,gq,gqa,gqb,qra,qrb,qta,qtb,qc,qd1,qd2⟩:=(MA v (ap hv)).ts t6
   refine ⟨el,_,_,.ref q,rfl,rfl,bI.of (aV D2 gl nl9 o6),ha,?_⟩;refine ⟨_,rfl,2,rfl,p,_,rfl,t6 _ _ hp,fun r7 H7 s7 g7=>?_⟩;have g7:H7 r7=some (.tup [.str "when",.ref t.p]):=g7;refine ⟨_,rfl,r7,q,_,_,rfl,rfl,g7,s7 _ _ gq,by show 4<=sizeLine;decide,fun r8 H8 s8 g8=>?_⟩;have sF:=s7.trans s8;replace D6:=D6.same sF;replace o2:=o2.trans (o6.trans (.of sF));refine ⟨eQ,fun tz htz=>kk (.ref tz) _ (D6.same (aA htz _)) (o2.trans (.of (aA htz _))) (kO (r':=Rw.when r8 qa qb t a' b') htz ⟨g8,(tm.ts t6).ts (.of sF),tf,sF _ _ gqa,sF _ _ gqb,aX.ts (.of sF) a' qra,aX.ts (.of sF) b' qrb⟩ ⟨qta,qtb⟩ (by simp only [Rw.cnt];lia) (by simp only [Rw.dp];lia))⟩
theorem bF8 (C_Pth:Cl P w K mg base 9 (jO 8) "_law_paths") (C_Put:Cl P w K mg base 9 (wS 8) "_law_put") (C_OKi:Cl P w K mg base 11 spOtherK "_law_other_kinds") (C_Draw:Cl P w K mg base 1 spDraw "_law_draw") (C_Ows:Cl P w K mg base 103 spOwise "_law_otherwise") (C_RAt:Cl P w K mg base 9 (jL 8) "_law_row_at") (m_len:mg "len"=none):gN P w K mg base "_law_spoilt" "_law_spoilt" bU4 104 ["_law_deal_here","_law_program_here","_law_names_here"] spSpoilt:=by
 refine iV ["_law_deal_here","_law_program_here","_law_names_here","_law_kinds","_law_rows","_law_paths_here","_law_path","_law_others"] fun H Q nd hr h=>?_
 obtain ⟨d,l,nl,p,xs,ks,rs,c,e,rfl,D,N,PG,kl,c12,hc,he,k⟩:=h;refine ⟨_,(aE (fU (pv 1) (eG rfl (aY (eO 3 nd) (aY (eO 4 nd) dN))))
  (eY 5 nd (bW C_Pth hr (aN (pv 4)))
  (aE (bE (dY (PW.pt (nI (dM bP (iK aW m_len bz (aN (pv 5))) aD) (mK (dM bP (bW C_Draw hr (aB (pv 0) (aN aD))) aD))))) (aF (aU (bW C_OKi hr (aB (pv 0) (aN (pv 1)))))) aO)
  (eY 6 nd (bV cY (pv 5) (bW C_Draw hr (aB (pv 0) (aN (iK aW m_len bz (aN (pv 5)))))))
  (eY 7 nd (bW C_Put hr (aB (pv 4) (aB (pv 6) (aN (bW C_Ows hr (aB (pv 0) (aB (bW C_RAt hr (aB (pv 4) (aN (pv 6)))) (aN (pv 2)))))))))
  (aE (bE (dM eW (iK aW m_len bz (aN (bW C_Pth hr (aN (pv 7))))) aD) (aF (aU (pv 1))) aO)
  (aF (aU (aL (aB (pv 3) (aN (pv 7)))))))))))),?_⟩
 obtain ⟨pk,pr,hp,hk,hpr⟩:=PG.ex;have hC:=PG.cnt;have hD:=PG.dp;refine ⟨_,rfl,p,_,rfl,aQ.of hp,rfl,_,_,rfl,_,_,rfl,rfl,?_⟩;refine ⟨_,rfl,pr,rs,rfl,hpr,PG.rows,by lia,by show dI rs+1<=8;lia,fun q zs H1 s1 fq hq tw=>?_⟩;replace PG:=PG.ts (.of s1);replace N:=N.same s1;have nq:=(bZ D fq).2;have D1:=D.same s1;have o1:dZ d l H H1:= .of s1;have zl:=tw.length;rw [dS] at zl;replace hp:=s1 _ _ hp;replace hk:=s1 _ _ hk;replace hpr:=s1 _ _ hpr;refine ⟨fun b G=>cS G d l/\dZ d l H1 G/\(b=false->zs≠[]),?_,?_⟩
 ·refine ⟨_,rfl,q,_,rfl,.inl (bI.of hq),rfl,_,rfl,?_⟩
  by_cases c0:zs=[]
  ·exact bD (af (by rw [c0];rfl)) ⟨D1,dZ.refl _,fun z=>nomatch z⟩
  ·refine aR (fun z=>c0 (by have z:=ag z;injection z with z;exact gr (by lia))) ?_;exact ⟨_,rfl,d,l,8,rfl,D1,by decide,by decide,fun x H2 x0 x1 D2 o2=>⟨rfl,_,rfl,D2,o2,fun _=>c0⟩⟩
 rintro b G ⟨D2,o2,hb⟩;have t2:=TS.out D1 o2;replace PG:=PG.ts t2;replace N:=N.out D1 o2;replace hp:=t2 _ _ hp;replace hk:=t2 _ _ hk;replace hpr:=t2 _ _ hpr;replace hq:=aV D1 hq nq o2;replace tw:=tw.mono fun _ _ z=>eN.ts t2 z
 replace o2:=o1.trans o2;clear o1 D1 t2
 cases b with
 |true =>
  refine bD rfl ⟨_,rfl,_,rfl,d,l,p,ks,rs,c,e,rfl,D2,PG,kl,by (exact oqf),he,fun p' ks' rs' H' D' o' P' kl'=>k p' ks' rs' H' D' (o2.trans o') P' kl'⟩
 |false =>
  refine aR (by simp) ?_;have hz:=hb rfl;have zp:0 < zs.length:=wf.mpr hz;refine ⟨_,rfl,_,rfl,_,rfl,q,_,rfl,.inl (bI.of hq),d,l,_,rfl,D2,by lia,by lia,fun x H3 x0 x1 D3 o3=>?_⟩;have t3:=TS.out D2 o3;replace PG:=PG.ts t3;replace N:=N.out D2 o3;replace hp:=t3 _ _ hp;replace hk:=t3 _ _ hk;replace hpr:=t3 _ _ hpr;replace hq:=aV D2 hq nq o3;replace tw:=tw.mono fun _ _ z=>eN.ts t3 z
  replace o3:=o2.trans o3;clear D2 t3 o2;obtain ⟨v,hv,ha⟩:=eV (xs:=zs) x0 x1;obtain ⟨P,hP,pa,rfl,hpa⟩:=jU tw hv;obtain ⟨r,_,ld,pl⟩:=(iA rs).at hP;obtain ⟨f1,f2,f3⟩:=ld.facts;refine ⟨q,_,_,.ref pa,rfl,rfl,bI.of hq,ha,?_⟩;refine ⟨_,rfl,_,rfl,_,rfl,_,rfl,_,rfl,pr,pa,rs,P,r,rfl,hpr,PG.rows,hpa,ld,by show P.length+1<=2 * 8;lia,fun H4 s4=>?_⟩;refine ⟨_,rfl,d,l,nl,xs,r,rfl,D3.same s4,N.same s4,cJ.ts (.of s4) r (ld.mem PG.rows),f1 PG.tim,fun qs ss H5 D5 o5 g5 R5 T5 C5 E5=>?_⟩;have t5:TS H3 H5:=(TS.of s4).trans (TS.out (D3.same s4) o5);replace PG:=PG.ts t5;replace o3:=o3.trans ((dZ.of s4).trans o5);refine ⟨pr,pa,qs,rs,ss,P,r,0,rfl,t5 _ _ hpr,PG.rows,PG.tim,by lia,t5 _ _ hpa,ld,by show P.length+1<=2 * 8;lia,g5,R5,T5,by lia,E5,fun p6 rs6 H6 s6 g6 R6 T6 C6 E6=>?_⟩;replace PG:=PG.ts (.of s6);replace o3:=o3.trans (.of s6);have D6:=D5.same s6;refine ⟨_,rfl,p6,rs6,rfl,g6,R6,by lia,by show dI rs6+1<=8;lia,fun q7 zs7 H7 s7 _ hq7 tw7=>⟨q7,_,rfl,.inl (bI.of hq7),_,_,rfl,rfl,_,rfl,?_⟩⟩
  replace PG:=PG.ts (.of s7);replace o3:=o3.trans (.of s7);have D7:=D6.same s7;have l7:=tw7.length;rw [dS] at l7
  by_cases c7:(12:Int) < (zs7.length:Int)
  ·exact bD (af c7) ⟨_,rfl,k p ks rs H7 D7 o3 PG (by (exact oqI))⟩
  ·refine aR (fun z=>c7 (ag z)) ?_;refine ⟨_,rfl,_,rfl,bJ,fun t8 ht8=>?_⟩;have s8:=aA ht8 (.tup [.ref pk,.ref p6]);exact k t8 ks rs6 _ (D7.same s8) (o3.trans (.of s8)) ⟨⟨pk,p6,aC,(s6.trans (s7.trans s8)) _ _ (t5 _ _ hk),(s7.trans s8) _ _ g6⟩,aX.ts (.of (s7.trans s8)) rs6 R6,T6,by lia,by lia⟩ (by (exact oqI))
theorem bK0 (C_Draw:Cl P w K mg base 1 spDraw "_law_draw") (C_Pth:Cl P w K mg base 9 (jO 8) "_law_paths") (C_Put:Cl P w K mg base 9 (wS 8) "_law_put") (C_WiK:Cl P w K mg base 10 spWithK "_law_with_kinds") (C_RAt:Cl P w K mg base 9 (jL 8) "_law_row_at") (m_len:mg "len"=none):gN P w K mg base "_law_two_reasons" "_law_two_reasons" bS2 12 ["_law_deal_here","_law_program_here","_law_names_here"] spTwoR:=by
 refine iV ["_law_deal_here","_law_program_here","_law_names_here","_law_kinds","_law_rows","_law_form","_law_paths_here","_law_tells_here","_law_row","_law_path","_law_both","_law_others"] fun H Q nd hr h=>?_
 obtain ⟨d,l,nl,p,xs,ks,rs,c,e,rfl,D,N,PG,kl,hc,he,k⟩:=h;refine ⟨_,(@aE _ _ _ _ _ (fU (pv 1) (eG rfl (aY (eO 3 nd) (aY (eO 4 nd) dN))))
  (@aE _ _ _ _ _ (kZ 5 nd (bW C_Draw hr (aB (pv 0) (aN aD))))
  (@aE _ _ _ _ _ (bE (dM bP (pv 5) aD) (@aF _ _ _ (aU (bW C_WiK hr (aB (pv 1) (aN (bH bY (aM cI (aM cI (pv 3) (pv 3)) (@aL _ _ _ _ _ (@aB _ _ _ _ _ aG (@aB _ _ _ _ _ aG (@aB _ _ _ _ _ aG (@aB _ _ _ _ _ aG cF rfl) rfl) rfl) rfl))) bQ (bO (aM bT aD (bW C_Draw hr (aB (pv 0) (aN aD))))))))))) aO)
  (@aE _ _ _ _ _ (kZ 6 nd (bW C_Pth hr (aN (pv 4))))
  (@aE _ _ _ _ _ (bE (dY (PW.pt (nI (dM bP (pv 5) aD) (mK (dM bP (iK aW m_len bz (aN (pv 6))) aD))))) (aF (aU (aL (aB (pv 3) (aN (aL cF)))))) aO)
  (@aE _ _ _ _ _ (kZ 7 nd (aL (aN (aL (aB aG (aN (aL (aB aG (aN (bW C_Draw hr (aB (pv 0) (aN aD))))))))))))
  (@aE _ _ _ _ _ (kZ 8 nd (aL (aB aG (aB (aL (aB aG (aN (bV cY (pv 2) (bW C_Draw hr (aB (pv 0) (aN (iK aW m_len bz (aN (pv 2)))))))))) (aB (pv 7) (aN (aL cF)))))))
  (@aE _ _ _ _ _ (fK (bE (dM bP (bW C_Draw hr (aB (pv 0) (aN aD))) aD) (aF (kZ 8 nd (aM cI (bH bY (pv 8) bQ (bO aD)) (aL (aB (aL cF) (aN (aL (aN (aL (aB aG (aN (aL (aB aG (aN aG)))))))))))))) aO))
  (@aE _ _ _ _ _ (kZ 9 nd (bV cY (pv 6) (bW C_Draw hr (aB (pv 0) (aN (iK aW m_len bz (aN (pv 6))))))))
  (@aE _ _ _ _ _ (kZ 10 nd (bV cY (bS (aB (aL (aB (pv 8) (aN (bW C_RAt hr (aB (pv 4) (aN (pv 9))))))) (aN (aL (aB (bW C_RAt hr (aB (pv 4) (aN (pv 9)))) (aN (pv 8))))))) (bW C_Draw hr (aB (pv 0) (aN aD)))))
  (@aE _ _ _ _ _ (kZ 11 nd (bW C_Put hr (aB (pv 4) (aB (pv 9) (aN (pv 10))))))
  (@aE _ _ _ _ _ (bE (dY (PW.pt (nI (dM eW (iK aW m_len bz (aN (pv 6))) aD) (mK (dM eW (iK aW m_len bz (aN (pv 9))) aD))))) (aF (aU (pv 1))) aO)
  (@aF _ _ _ (aU (aL (aB (pv 3) (aN (pv 11)))))))))))))))))),?_⟩
 obtain ⟨pk,pr,hp,hk,hpr⟩:=PG.ex;have hC:=PG.cnt;have hD:=PG.dp;have x1:=N.x1;have x2:=N.x2;refine ⟨_,rfl,p,_,rfl,aQ.of hp,rfl,_,_,rfl,_,_,rfl,rfl,?_⟩;refine ⟨_,rfl,d,l,5,rfl,D,by decide,by decide,fun f H1 f0 f1 D1 o1=>?_⟩;have t1:=TS.out D o1;replace PG:=PG.ts t1;replace N:=N.out D o1;replace hp:=t1 _ _ hp;replace hk:=t1 _ _ hk;replace hpr:=t1 _ _ hpr;refine ⟨_,rfl,rfl,_,rfl,?_⟩
 by_cases c0:f=0
 ·refine bD (af (by rw [c0])) ?_;refine ⟨_,rfl,_,rfl,_,rfl,pk,pk,_,_,rfl,rfl,hk,hk,bu (cE (by rw [aa];lia)),fun r2 H2 s2 g2=>⟨by show 4<=sizeLine;decide,fun t3 ht3=>?_⟩⟩;have s3:=aA ht3 (.tup [.str "one",.str "two",.str "three",.str "one"]);have g3:aJ H2 t3 (.tup [.str "one",.str "two",.str "three",.str "one"]) t3=some (.tup ((["one","two","three","one"]:List Str).map V.str)):=aC;replace g2:=s3 _ _ g2;replace s3:=s2.trans s3;generalize aJ H2 t3 (.tup [.str "one",.str "two",.str "three",.str "one"])=H3 at s3 g2 g3 ⊢;rw [<- bg] at g2;refine ⟨r2,t3,_,_,rfl,rfl,g2,g3,bu (cE (by rw [aa,aa,ak];show ks.length+ks.length+4<=_;lia)),fun r4 H4 s4 g4=>?_⟩;rw [<- bg] at g4;replace s4:=s3.trans s4;have D4:=D1.same s4;refine ⟨_,rfl,d,l,3,rfl,D4,by decide,by decide,fun x H5 x0 x1 D5 o5=>⟨_,_,rfl,rfl,4+x,rfl,r4,_,rfl,TS.out D4 o5 _ _ g4,fun r6 H6 s6 g6=>?_⟩⟩
  have t6:TS H1 H6:=(TS.of s4).trans ((TS.out D4 o5).trans (.of s6));obtain ⟨n,hn,n6⟩:∃ n:Nat,4+x=(n:Int)/\n<=6:=⟨(4+x).toNat,by lia,by lia⟩
  rw [hn,pI, <- nt] at g6;have tl:=ir n (ks++ks++(["one","two","three","one"]:List Str));exact ⟨p,r6,ks,_,rs,c,e,rfl,PG.ts t6,g6,by lia,by (exact oqf),by (exact oqf),fun p' rs' H' s' P'=>k p' _ rs' H' ((D5.same s6).same s') (o1.trans ((dZ.of s4).trans (o5.trans (.of (s6.trans s'))))) (P'.mono (by (exact oqI)) (by (exact df _))) (by lia)⟩
 refine aR (fun z=>c0 (by have z:=ag z;injection z)) ?_;refine ⟨_,rfl,pr,rs,rfl,hpr,PG.rows,by lia,by show dI rs+1<=8;lia,fun q zs H2 s2 fq hq tw=>?_⟩;replace PG:=PG.ts (.of s2);replace N:=N.same s2;have nq:=(bZ D1 fq).2;replace D1:=D1.same s2;replace o1:=o1.trans (.of s2);have zl:=tw.length;rw [dS] at zl;replace hp:=s2 _ _ hp;replace hk:=s2 _ _ hk;replace hpr:=s2 _ _ hpr;refine ⟨fun b G=>G=H2/\(b=false->zs≠[]),?_,?_⟩
 ·refine ⟨_,rfl,rfl,_,rfl,?_⟩
  by_cases c1:f=1
  ·exact bD (af (by rw [c1])) ⟨rfl,fun z=>nomatch z⟩
  ·refine aR (fun z=>c1 (by have z:=ag z;injection z)) ?_;refine ⟨_,rfl,q,_,rfl,.inl (bI.of hq),rfl,_,rfl,rfl,fun z=>?_⟩;intro e;rw [e] at z;exact absurd z (by decide +kernel)
 rintro b G ⟨rfl,hb⟩
 cases b with
 |true =>
  refine bD rfl ⟨_,rfl,av _,fun t3 ht3=>⟨bJ,fun t4 ht4=>?_⟩⟩;have s3:=aA ht3 (.tup []);have s4:=aA ht4 (.tup [.ref pk,.ref t3]);exact k t4 ks [] _ (D1.same (s3.trans s4)) (o1.trans (.of (s3.trans s4))) ⟨⟨pk,t3,aC,(s3.trans s4) _ _ hk,s4 _ _ aC⟩,trivial,trivial,av _,av _⟩ (by (exact oqI))
 |false =>
  refine aR (by simp) ?_;have hz:=hb rfl;have zp:0 < zs.length:=wf.mpr hz;refine ⟨_,rfl,d,l,10,rfl,D1,by decide,by decide,fun y H3 y0 y1 D3 o3=>⟨bJ,fun a1 ha1=>⟨bJ,fun a2 ha2=>⟨eQ,fun a3 ha3=>?_⟩⟩⟩⟩;have u1:=aA ha1 (.tup [.str "num",.int y]);have u2:=aA ha2 (.tup [.str "tell",.ref a1]);have u3:=aA ha3 (.tup [.ref a2]);have T1:cJ (aJ (aJ (aJ H3 a1 (.tup [.str "num",.int y])) a2 (.tup [.str "tell",.ref a1])) a3 (.tup [.ref a2])) (.tell a2 (.num a1 y)):=⟨u3 _ _ aC,(u2.trans u3) _ _ aC,⟨by assumption,by lia⟩,by show 1<=100;decide⟩
  have A3:aJ (aJ (aJ H3 a1 (.tup [.str "num",.int y])) a2 (.tup [.str "tell",.ref a1])) a3 (.tup [.ref a2]) a3=some (.tup (bG [Rw.tell a2 (.num a1 y)])):=aC;have u13:=u1.trans (u2.trans u3);have t3:=(TS.out D1 o3).trans (.of u13);replace PG:=PG.ts t3;replace N:=(N.out D1 o3).same u13;replace hk:=t3 _ _ hk;replace hpr:=t3 _ _ hpr;replace hq:=u13 _ _ (aV D1 hq nq o3);replace tw:=tw.mono fun _ _ z=>eN.ts t3 z
  replace D3:=D3.same u13;replace o3:=o1.trans (o3.trans (.of u13));clear u1 u2 u3 u13 t3 o1 D1;generalize aJ (aJ (aJ H3 a1 (.tup [.str "num",.int y])) a2 (.tup [.str "tell",.ref a1])) a3 (.tup [.ref a2])=H3 at T1 A3 PG N hk hpr hq tw D3 o3 ⊢;refine ⟨_,rfl,_,rfl,_,rfl,nl,_,rfl,.inl (bI.of N.at_),d,l,_,rfl,D3,by rw [aa];lia,by rw [aa];(exact oqq),fun x H4 x0 x1 D4 o4=>?_⟩;obtain ⟨v,hv,ha⟩:=eV (xs:=xs.map V.str) x0 x1;obtain ⟨wd,rfl,hw⟩:=eT hv;have t4:=TS.out D3 o4;replace N:=N.out D3 o4;refine ⟨nl,_,_,.str wd,rfl,rfl,bI.of N.at_,ha,bJ,fun b1 hb1=>⟨_,rfl,av _,fun b2 hb2=>⟨by show 4<=sizeLine;decide,fun b3 hb3=>?_⟩⟩⟩;have u1:=aA hb1 (.tup [.str "name",.str wd]);have u2:=aA hb2 (.tup []);have u3:=aA hb3 (.tup [.str "when",.ref b1,.ref a3,.ref b2]);have u13:=u1.trans (u2.trans u3);replace t4:=t4.trans (.of u13);have RW:cJ (aJ (aJ (aJ H4 b1 (.tup [.str "name",.str wd])) b2 (.tup [])) b3 (.tup [.str "when",.ref b1,.ref a3,.ref b2])) (.when b3 a3 b2 (.nam b1 wd) [.tell a2 (.num a1 y)] []):=⟨aC,(u2.trans u3) _ _ aC,⟨trivial,by show 1<=100;decide⟩,t4 _ _ A3,u3 _ _ aC,⟨cJ.ts t4 _ T1,trivial⟩,trivial⟩
  replace PG:=PG.ts t4;replace N:=N.same u13;replace hk:=t4 _ _ hk;replace hpr:=t4 _ _ hpr;replace hq:=u13 _ _ (aV D3 hq nq o4);replace tw:=tw.mono fun _ _ z=>eN.ts t4 z
  replace D4:=D4.same u13;replace o4:=o3.trans (o4.trans (.of u13));clear u1 u2 u3 u13 t4 o3 D3 T1 A3;generalize aJ (aJ (aJ H4 b1 (.tup [.str "name",.str wd])) b2 (.tup [])) b3 (.tup [.str "when",.ref b1,.ref a3,.ref b2])=H4 at RW PG N hk hpr hq tw D4 o4 ⊢;refine ⟨fun σ G=>∃ (rw:Rw) (v10 v11 v12:Option V),σ=[some (.ref d),some (.ref p),some (.ref nl),some (.ref pk),some (.ref pr),some (.int f),some (.ref q),some (.ref a3),some (.ref rw.p),v10,v11,v12]/\cS G d l/\dZ d l H4 G/\cJ G rw/\kB rw/\rw.cnt=2/\rw.dp=1,?_,?_⟩
  ·refine ⟨_,rfl,d,l,2,rfl,D4,by decide,by decide,fun z H5 z0 z1 D5 o5=>⟨rfl,_,rfl,?_⟩⟩;have t5:=TS.out D4 o5
   by_cases cz:z=0
   ·refine bD (af (by rw [cz])) ?_;refine ⟨_,rfl,2,rfl,b3,_,rfl,t5 _ _ RW.1,fun r6 H6 s6 g6=>?_⟩;have g6:H6 r6=some (.tup [.str "when",.ref b1]):=g6;refine ⟨av _,fun c1 hc1=>⟨bJ,fun c2 hc2=>⟨bJ,fun c3 hc3=>⟨eQ,fun c4 hc4=>⟨bJ,fun c5 hc5=>?_⟩⟩⟩⟩⟩;have w1:=aA hc1 (.tup []);have w2:=aA hc2 (.tup [.str "name",.str "zzzzzzzz"]);have w3:=aA hc3 (.tup [.str "tell",.ref c2]);have w4:=aA hc4 (.tup [.ref c3]);have w5:=aA hc5 (.tup [.ref c1,.ref c4]);have w25:=w2.trans (w3.trans (w4.trans w5));have w15:=w1.trans w25;refine ⟨r6,c5,_,_,rfl,rfl,w15 _ _ g6,aC,by show 4<=sizeLine;decide,fun r7 H7 s7 g7=>?_⟩;have sF:=s6.trans (w15.trans s7);refine ⟨.when r7 c1 c4 (.nam b1 wd) [] [.tell c3 (.nam c2 "zzzzzzzz")],_,_,_,rfl,D5.same sF,o5.trans (.of sF),⟨g7,jT.ts (.of sF) (jT.ts t5 RW.2.1),⟨trivial,by show 1<=100;decide⟩,(w25.trans s7) _ _ aC,(w5.trans s7) _ _ aC,trivial,⟨⟨(w4.trans (w5.trans s7)) _ _ aC,(w3.trans (w4.trans (w5.trans s7))) _ _ aC,trivial,by show 1<=100;decide⟩,trivial⟩⟩,⟨trivial,trivial,trivial⟩,rfl,rfl⟩
   ·refine aR (fun w=>cz (by have w:=ag w;injection w)) ?_;exact ⟨_,_,_,_,rfl,D5,o5,cJ.ts t5 _ RW,⟨⟨trivial,trivial⟩,trivial⟩,rfl,rfl⟩
  rintro σ G ⟨rw,v10,v11,v12,rfl,D5,o5,hrw,trw,crw,drw⟩;have t5:=TS.out D4 o5;clear RW;replace PG:=PG.ts t5;replace hk:=t5 _ _ hk;replace hpr:=t5 _ _ hpr;replace hq:=aV D4 hq nq o5;replace tw:=tw.mono fun _ _ z=>eN.ts t5 z
  replace o5:=o4.trans o5;clear D4 t5 o4 N;refine ⟨_,rfl,_,rfl,_,rfl,q,_,rfl,.inl (bI.of hq),d,l,_,rfl,D5,by lia,by lia,fun x H6 x0 x1 D6 o6=>?_⟩;have t6:=TS.out D5 o6;replace PG:=PG.ts t6;replace hk:=t6 _ _ hk;replace hpr:=t6 _ _ hpr;replace hq:=aV D5 hq nq o6;replace tw:=tw.mono fun _ _ z=>eN.ts t6 z
  replace hrw:=cJ.ts t6 _ hrw;replace o6:=o5.trans o6;clear D5 t6 o5;obtain ⟨v,hv,ha⟩:=eV (xs:=zs) x0 x1;obtain ⟨P,hP,pa,rfl,hpa⟩:=jU tw hv;obtain ⟨r,_,ld,pl⟩:=(iA rs).at hP;obtain ⟨f1,f2,f3⟩:=ld.facts;have pl8:P.length+1<=2 * 8:=by lia
  refine ⟨q,_,_,.ref pa,rfl,rfl,bI.of hq,ha,?_⟩;refine ⟨_,rfl,_,rfl,_,rfl,pr,pa,rs,P,r,rfl,hpr,PG.rows,hpa,ld,pl8,fun H7 s7=>⟨bJ,fun e1 he1=>?_⟩⟩;have u1:=aA he1 (.tup [.ref rw.p,.ref r.p]);have s17:=s7.trans u1;refine ⟨_,rfl,_,rfl,pr,pa,rs,P,r,rfl,s17 _ _ hpr,aX.ts (.of s17) rs PG.rows,s17 _ _ hpa,ld,pl8,fun H8 s8=>⟨_,rfl,bJ,fun e2 he2=>⟨bJ,fun el hel=>?_⟩⟩⟩;have u2:=aA he2 (.tup [.ref r.p,.ref rw.p]);have u3:=aA hel (.lst [.ref e1,.ref e2]);have sA:=s17.trans (s8.trans (u2.trans u3));have nel:=(bZ (D6.same (s17.trans (s8.trans u2))) hel).2;have MA:∀ v∈([.ref e1,.ref e2]:List V),∃ (a:Addr) (ss:List Rw),v= .ref a/\aJ (aJ H8 e2 (.tup [.ref r.p,.ref rw.p])) el (.lst [.ref e1,.ref e2]) a=some (.tup (bG ss))/\(ss=[rw,r]\/ss=[r,rw]):=by
   intro v hv;simp only [List.mem_cons,List.not_mem_nil,or_false] at hv;rcases hv with rfl | rfl
   ·exact ⟨e1,[rw,r],rfl,(s8.trans (u2.trans u3)) _ _ aC,.inl rfl⟩
   ·exact ⟨e2,[r,rw],rfl,u3 _ _ aC,.inr rfl⟩
  have gl:aJ (aJ H8 e2 (.tup [.ref r.p,.ref rw.p])) el (.lst [.ref e1,.ref e2]) el=some (.lst [.ref e1,.ref e2]):=aC;replace D6:=D6.same sA;replace o6:=o6.trans (.of sA);replace PG:=PG.ts (.of sA);replace hk:=sA _ _ hk;replace hpr:=sA _ _ hpr;replace hpa:=sA _ _ hpa;replace hq:=sA _ _ hq;replace hrw:=cJ.ts (.of sA) _ hrw;clear u1 u2 u3 s7 s17 sA tw;generalize aJ (aJ H8 e2 (.tup [.ref r.p,.ref rw.p])) el (.lst [.ref e1,.ref e2])=G9 at MA gl D6 o6 PG hk hpr hpa hq hrw ⊢;refine ⟨_,rfl,d,l,2,rfl,D6,by decide,by decide,fun z HA z0 z1 DA oA=>?_⟩;obtain ⟨v,hv,ha⟩:=eV (xs:=[V.ref e1,.ref e2]) z0 z1;obtain ⟨va,ss,rfl,gs,es⟩:=MA v (ap hv);have tA:=TS.out D6 oA;replace gl:=aV D6 gl nel oA;replace hq:=aV D6 hq nq oA;replace o6:=o6.trans oA;replace PG:=PG.ts tA;replace hk:=tA _ _ hk;replace hpr:=tA _ _ hpr;replace hpa:=tA _ _ hpa;replace hrw:=cJ.ts tA _ hrw;replace gs:=tA _ _ gs;have hR:=ld.mem PG.rows
  have hT:=f1 PG.tim;have ssok:aX HA ss/\dQ ss/\aP ss=r.cnt+2/\dI ss<=r.dp+1:=by
   rcases es with rfl | rfl
   ·exact ⟨⟨hrw,hR,trivial⟩,⟨trw,hT,trivial⟩,by simp only [aP];lia,by simp only [dI];lia⟩
   ·exact ⟨⟨hR,hrw,trivial⟩,⟨hT,trw,trivial⟩,by simp only [aP];lia,by simp only [dI];lia⟩
  obtain ⟨ss1,ss2,ss3,ss4⟩:=ssok;refine ⟨el,_,_,.ref va,rfl,rfl,bI.of gl,ha,?_⟩;refine ⟨_,rfl,_,rfl,_,rfl,pr,pa,va,rs,ss,P,r,1,rfl,hpr,PG.rows,PG.tim,by lia,hpa,ld,pl8,gs,ss1,ss2,by lia,ss4,fun pB rsB HB sB gB RB TB CB EB=>?_⟩;replace PG:=PG.ts (.of sB);replace hq:=sB _ _ hq;replace hpa:=sB _ _ hpa;replace hk:=sB _ _ hk;replace o6:=o6.trans (.of sB);replace DA:=DA.same sB;refine ⟨fun b G=>G=HB,?_,?_⟩
  ·refine ⟨_,rfl,q,_,rfl,.inl (bI.of hq),_,_,rfl,rfl,_,rfl,?_⟩
   by_cases c1:(10:Int) < (zs.length:Int)
   ·exact bD (af c1) rfl
   ·exact aR (fun z=>c1 (ag z)) ⟨_,rfl,pa,_,rfl,.inr (aQ.of hpa),_,_,rfl,rfl,_,rfl,rfl⟩
  rintro b G rfl
  cases b with
  |true=>exact bD rfl ⟨_,rfl,k p ks rs _ DA o6 (PG.mono (by (exact oqI)) (by (exact df _))) (by (exact oqI))⟩
  |false =>
   refine aR (by simp) ⟨_,rfl,_,rfl,bJ,fun tC htC=>?_⟩;have sC:=aA htC (.tup [.ref pk,.ref pB]);exact k tC ks rsB _ (DA.same sC) (o6.trans (.of sC)) ⟨⟨pk,pB,aC,sC _ _ hk,sC _ _ gB⟩,aX.ts (.of sC) rsB RB,TB,by lia,by lia⟩ (by (exact oqI))
theorem aY8 (C_LTs:Cl P w K mg base 9 (aB2 8) "_law_tells") (C_Nin:Cl P w K mg base 102 (aA7 101) "_law_names_in") (m_len:mg "len"=none) (m_int:mg "int"=none):gN P w K mg base "_law_row_faults" "_law_row_faults" bM6 103 ["_law_row","_law_known"] spRFlt:=by
 refine iV ["_law_row","_law_known","_law_found","_law_mark","_law_low","_law_high","_law_term_here"] fun H Q nd hr h=>?_
 obtain ⟨kn,ks,r,rfl,hk0,kl,hr00,ht,hc,hd,k⟩:=h;refine ⟨_,(eY 2 nd (bS cF)
  (aE (fK (bE (dY (PW.pt (eR (dM cU (bV aI (pv 0) aD) (aL (aB aG (aB aG (aN aG))))) (eU (dM eW (bV aI (pv 0) aD) (bV aI (pv 0) aD)))))) (aF (bR (dG aj bo bq bM (pv 2) (aN aG)))) aO))
  (aE (fK (bE (dM bP (bV aI (pv 0) aD) aG) (aE (aR5 (i:=3) (j:=4) (l:=5) rfl nd rfl rfl rfl (by decide) (by decide) (by decide) rfl rfl rfl (aB (bV aI (pv 0) aD) (aB (bV aI (pv 0) aD) (aN (bV aI (pv 0) aD)))) rfl)
  (aF (bE (dY (PW.pt (nI (dM aY1 (pv 4) (pv 5)) (nI (dM mU (pv 3) (pv 4)) (nI (dM eW (pv 3) (pv 5)) (mK (dM eW (aM fP aD (bV aI (bV aI (pv 0) aD) aD)) (bV aI (bV aI (pv 0) aD) aD)))))))) (aF (bR (dG aj bo bq bM (pv 2) (aN aG)))) aO))) aO))
  (aE (fK (bE (dM cU (bV aI (pv 0) aD) (aL (aB aG (aB aG (aN aG))))) (eY 6 nd (bV aI (pv 0) (bV cY (bS (aB aD (aN aD))) (xD kY m_int jb (aN (zU bP (bV aI (pv 0) aD) aG)))))
  (aF (bE (dM eW (iK aW m_len bz (aN (cQ ["_law_name","_law_known"] [none,some 1] (dW (bW C_Nin hr (aN (pv 6)))) (fun _ _ _ _=>(eO 0)) (fun _ _ _ _=>(mE (dM (bV0 K) (pv 0) (pv 1)))) (fun _ _ _ _=>(pv 0))))) aD) (aF (bR (dG aj bo bq bM (pv 2) (aN aG)))) aO))) aO))
  (aE (fK (bE (dY (PW.pt (eR (dM bP (bV aI (pv 0) aD) aG) (eU (dM aW4 (bW C_LTs hr (aN (bV aI (pv 0) aD))) (bW C_LTs hr (aN (bV aI (pv 0) aD)))))))) (aF (bR (dG aj bo bq bM (pv 2) (aN aG)))) aO))
  (aF (aU (pv 2)))))))),?_⟩
 refine ⟨av _,fun lf hlf=>?_⟩;have s1:=aA hlf (.lst []);have gl:aJ H lf (.lst []) lf=some (.lst (([]:List Str).map V.str)):=aC;generalize aJ H lf (.lst [])=G at s1 gl ⊢;have hr0:cJ G r:=cJ.ts (.of s1) r hr00;have hk:=s1 _ _ hk0;refine ⟨fun σ G=>∃ (v3 v4 v5 v6:Option V),σ=[some (.ref r.p),some (.ref kn),some (.ref lf),v3,v4,v5,v6]/\bB H G/\G lf=some (.lst ((([]:List Str)++bw "range" (g1 r)).map V.str)),?_,?_⟩
 ·have L:(([]:List Str).map V.str).length<=3:=by simp only [List.length_append,List.length_map,List.length_nil];have:=gP "range" (g1 r);have:=gP "range" (g2 r);have:=gP "unknown" (g3 ks r);(exact av _)
  refine ⟨fun b G'=>bB G G'/\b=g1 r,?_,?_⟩
  ·refine ⟨_,rfl,r.p,_,_,.str r.w,rfl,rfl,aQ.of hr0.at,fL,by show 3<=sizeLine;decide,fun t2 ht2=>?_⟩;obtain ⟨G2,e0,s2,gt2⟩:=hV ht2 (.tup [.str "ladder",.str "flat",.str "choose"]);rw [e0];clear e0;refine ⟨t2,[.str "ladder",.str "flat",.str "choose"],rfl,.inr (aQ.of gt2),rfl,by decide,_,rfl,?_⟩;have ei:oM (V.str r.w) (iU.map V.str)=decide (r.w∈iU):=dL _ _;replace hr0:=cJ.ts (.of s2) r hr0
   by_cases c:r.w∈iU
   ·refine bD (ei.trans (af c)) ?_;generalize hP:r.p=P
    cases r with
    |thr p w x us am =>
     obtain rfl:p=P:=hP;have c:w∈iU:=c;have nf:w≠"first":=fun z=>absurd c (by rw [z];decide +kernel)
     rcases hr0.2 with ⟨mw,a,b,lo,hi,rfl,sm,rfl⟩ | ⟨rfl,a,b,lo,hi,rfl,sm,rfl⟩ | ⟨z,_⟩
     ·exact ⟨_,rfl,p,_,_,.int lo,rfl,rfl,aQ.of hr0.1,rfl,_,rfl,p,_,_,.int hi,rfl,rfl,aQ.of hr0.1,rfl,_,_,rfl,rfl,_,rfl,s2,by simp [g1,nf]⟩
     ·exact ⟨_,rfl,p,_,_,.int lo,rfl,rfl,aQ.of hr0.1,rfl,_,rfl,p,_,_,.int hi,rfl,rfl,aQ.of hr0.1,rfl,_,_,rfl,rfl,_,rfl,s2,by simp [g1,nf]⟩
     ·exact absurd z nf
    |lt p x t=>exact absurd c (show ¬ ("let": Str)∈iU by decide +kernel)
    |tell p t=>exact absurd c (show ¬ ("tell": Str)∈iU by decide +kernel)
    |when p pa pb t a b=>exact absurd c (show ¬ ("when": Str)∈iU by decide +kernel)
    |times p pb n b=>exact absurd c (show ¬ ("times": Str)∈iU by decide +kernel)
   ·exact aR (fun z=>c (ag (ei.symm.trans z))) ⟨s2,(bL2 c hr0).symm⟩
  rintro b G2 ⟨s2,hb⟩;replace gl:=s2 _ _ gl;replace s1:=s1.trans s2
  cases b with
  |true =>
   refine bD rfl ?_;refine ⟨_,rfl,.inl ⟨rfl,_,bI.of gl⟩,lf,_,_,rfl,rfl,gl,bL (cj L (by decide)),_,_,_,_,rfl,bF s1 hlf,?_⟩;rw [aC,lO, <- hb]
  |false =>
   refine aR (by simp) ⟨_,_,_,_,rfl,s1,?_⟩;rw [<- hb, <- kP];exact gl
 rintro σ G ⟨v3,v4,v5,v6,rfl,s1,gl⟩;replace hr0:cJ G r:=cJ.ts (.of s1) r hr00;replace hk:=s1 _ _ hk0;refine ⟨fun σ G=>∃ (v3 v4 v5 v6:Option V),σ=[some (.ref r.p),some (.ref kn),some (.ref lf),v3,v4,v5,v6]/\bB H G/\G lf=some (.lst ((([]:List Str)++bw "range" (g1 r)++bw "range" (g2 r)).map V.str)),?_,?_⟩
 ·have L:((([]:List Str)++bw "range" (g1 r)).map V.str).length<=3:=by simp only [List.length_append,List.length_map,List.length_nil];have:=gP "range" (g1 r);have:=gP "range" (g2 r);have:=gP "unknown" (g3 ks r);lia
  refine ⟨_,rfl,r.p,_,_,.str r.w,rfl,rfl,aQ.of hr0.at,fL,rfl,_,rfl,?_⟩
  by_cases c:r.w="first"
  ·refine bD (af (by rw [c])) ?_;have gg:∃ p x us am,r= .thr p "first" x us am:=by
    cases r with
    |thr p w x us am=>exact ⟨p,x,us,am,by rw [show w="first" from c]⟩
    |lt p x t=>exact absurd c (show ¬ ("let": Str)="first" by decide +kernel)
    |tell p t=>exact absurd c (show ¬ ("tell": Str)="first" by decide +kernel)
    |when p pa pb t a b=>exact absurd c (show ¬ ("when": Str)="first" by decide +kernel)
    |times p pb n b=>exact absurd c (show ¬ ("times": Str)="first" by decide +kernel)
   obtain ⟨p,x,us,am,rfl⟩:=gg;clear c;obtain ⟨hp,ok⟩:=hr0;rcases ok with ⟨z,_⟩ | ⟨z,_⟩ | ⟨_,mark,a,q,cc,lo,hi,xx,yy,rfl,hq,sm,x0,x1,rfl⟩
   ·exact absurd z (by decide +kernel)
   ·exact absurd z (by decide +kernel)
   refine ⟨_,rfl,p,_,_,.int mark,rfl,rfl,aQ.of hp,rfl,_,rfl,p,_,_,.int lo,rfl,rfl,aQ.of hp,rfl,_,rfl,p,_,_,.int hi,rfl,rfl,aQ.of hp,rfl,_,_,_,rfl,?_⟩;refine ⟨fun b G'=>G'=G/\b=decide (hi<=lo\/¬ (lo<=mark/\mark<=hi)\/yy < 2 * xx),?_,?_⟩
   ·refine ⟨_,rfl,_,rfl,_,_,rfl,rfl,_,rfl,?_⟩
    by_cases c1:hi<=lo
    ·exact bD (af c1) ⟨rfl,(af (.inl c1)).symm⟩
    refine aR (fun z=>c1 (ag z)) ⟨_,rfl,_,rfl,_,_,rfl,rfl,_,rfl,?_⟩
    by_cases c2:mark < lo
    ·exact bD (af c2) ⟨rfl,(af (.inr (.inl (by lia)))).symm⟩
    refine aR (fun z=>c2 (ag z)) ⟨_,rfl,_,rfl,_,_,rfl,rfl,_,rfl,?_⟩
    by_cases c3:hi < mark
    ·exact bD (af c3) ⟨rfl,(af (.inr (.inl (by lia)))).symm⟩
    refine aR (fun z=>c3 (ag z)) ?_;refine ⟨_,rfl,p,_,_,.ref q,rfl,rfl,aQ.of hp,rfl,q,_,_,.int xx,rfl,rfl,aQ.of hq,rfl,_,_,rfl,rfl,.inl ⟨by decide,by decide⟩,_,rfl,p,_,_,.ref q,rfl,rfl,aQ.of hp,rfl,q,_,_,.int yy,rfl,rfl,aQ.of hq,rfl,_,_,rfl,rfl,_,rfl,rfl,?_⟩;exact oe.mpr ⟨fun h=> .inr (.inr h),fun h=>by lia⟩
   rintro b G2 ⟨rfl,hb⟩;have hb:b=g2 (.thr p "first" x [.int mark,a,.ref q,cc,.int lo,.int hi] (decide (hi<=lo\/¬ (lo<=mark/\mark<=hi)\/yy < 2 * xx))):=by rw [hb];simp [g2]
   generalize hrr:Rw.thr p "first" x [.int mark,a,.ref q,cc,.int lo,.int hi] (decide (hi<=lo\/¬ (lo<=mark/\mark<=hi)\/yy < 2 * xx))=r at *;have ep:p=r.p:=by rw [<- hrr];rfl
   subst ep
   cases b with
   |true =>
    refine bD rfl ?_;refine ⟨_,rfl,.inl ⟨rfl,_,bI.of gl⟩,lf,_,_,rfl,rfl,gl,bL (cj L (by decide)),_,_,_,_,rfl,bF s1 hlf,?_⟩;rw [aC,lO, <- hb]
   |false =>
    refine aR (by simp) ⟨_,_,_,_,rfl,s1,?_⟩;rw [<- hb, <- kP];exact gl
  ·refine aR (fun z=>c (by have z:=ag z;injection z)) ⟨_,_,_,_,rfl,s1,?_⟩;rw [bM8 c, <- kP];exact gl
 rintro σ G ⟨v3,v4,v5,v6,rfl,s1,gl⟩;replace hr0:cJ G r:=cJ.ts (.of s1) r hr00;replace hk:=s1 _ _ hk0;refine ⟨fun σ G=>∃ (v3 v4 v5 v6:Option V),σ=[some (.ref r.p),some (.ref kn),some (.ref lf),v3,v4,v5,v6]/\bB H G/\G lf=some (.lst ((([]:List Str)++bw "range" (g1 r)++bw "range" (g2 r)++bw "unknown" (g3 ks r)).map V.str)),?_,?_⟩
 ·have L:((([]:List Str)++bw "range" (g1 r)++bw "range" (g2 r)).map V.str).length<=3:=by simp only [List.length_append,List.length_map,List.length_nil];have:=gP "range" (g1 r);have:=gP "range" (g2 r);have:=gP "unknown" (g3 ks r);lia
  refine ⟨_,rfl,r.p,_,_,.str r.w,rfl,rfl,aQ.of hr0.at,fL,by show 3<=sizeLine;decide,fun t2 ht2=>?_⟩;obtain ⟨G2,e0,s2,gt2⟩:=hV ht2 (.tup [.str "let",.str "tell",.str "when"]);rw [e0];clear e0;refine ⟨t2,[.str "let",.str "tell",.str "when"],rfl,.inr (aQ.of gt2),rfl,by decide,_,rfl,?_⟩;have ei:oM (V.str r.w) (lT.map V.str)=decide (r.w∈lT):=dL _ _;replace hr0:=cJ.ts (.of s2) r hr0;replace gl:=s2 _ _ gl;replace hk:=s2 _ _ hk;replace s1:=s1.trans s2
  by_cases c:¬ r.w∈lT
  ·refine aR (fun z=>c (ag (ei.symm.trans z))) ⟨_,_,_,_,rfl,s1,?_⟩;rw [bU2 c, <- kP];exact gl
  replace c:=ya.mp c;refine bD (ei.trans (af c)) ?_;clear ei;generalize hP:r.p=P
  cases r with
  |thr p w x us am=>exact absurd c (aL5 hr0.2.w)
  |times p pb n b=>exact absurd c (show ¬ ("times": Str)∈lT by decide +kernel)
  |lt p x t =>
   obtain rfl:p=P:=hP;refine ⟨_,rfl,bJ,fun l3 hl3=>?_⟩;have u3:=aA hl3 (.lst [.int 1,.int 2]);have g3':aJ G2 l3 (.lst [.int 1,.int 2]) l3=some (.lst [.int 1,.int 2]):=aC;replace gl:=u3 _ _ gl;replace hk:=u3 _ _ hk;replace hr0:=cJ.ts (.of u3) _ hr0;replace s1:=s1.trans u3;generalize aJ G2 l3 (.lst [.int 1,.int 2])=G3 at g3' gl hk hr0 s1 ⊢;refine ⟨_,rfl,p,_,_,.str "let",rfl,rfl,aQ.of hr0.1,rfl,rfl,.inr ⟨_,rfl,l3,_,_,.int 2,rfl,rfl,bI.of g3',by rw [bc (by decide +kernel)];rfl,p,_,_,.ref t.p,rfl,rfl,aQ.of hr0.1,rfl,?_⟩⟩;have tz:=hr0.2.2.2;have td:=t.deep_size;have nl:=t.names_len;refine ⟨_,rfl,t,rfl,hr0.2.1,by (exact oqf),by show t.deep<=101;lia,fun q G4 s4 h4=>?_⟩;replace gl:=s4 _ _ gl;replace hk:=s4 _ _ hk;replace s1:=s1.trans s4;refine ⟨q,rfl,⟨_,bI.of h4⟩,cO (K:=K) (a:=q) (xs:=t.names.map V.str) (fun i ys σ G'=>G'=G4/\(∃ v,σ=[v,some (.ref kn)])/\ys=((t.names.take i).filter fun x=> !decide (x∈ks)).map V.str)
    (cE (by rw [aa];lia)) ⟨rfl,⟨_,rfl⟩,rfl⟩ (by rintro i ys σ G ⟨_,_,e⟩;rw [e,aa];exact cj (gp _ _) (ir _ _)) (by rintro i ys σ G _ ⟨e,_⟩;rw [e];exact bI.of h4) ?_ ?_⟩
   ·rintro i v ys σ G' hv ⟨rfl,⟨v',rfl⟩,rfl⟩;obtain ⟨x9,rfl,hx⟩:=eT hv;refine ⟨_,rfl,_,rfl,kn,_,rfl,.inl (bI.of hk),rfl,eJ _,_,rfl,?_⟩;have ei:(!oM (V.str x9) (ks.map V.str))= !decide (x9∈ks):=by rw [dL]
    rw [iP hx]
    by_cases c9:x9∈ks
    ·refine aR (fun z=>by have z:=ei.symm.trans z;rw [af c9] at z;cases z) ⟨rfl,⟨_,rfl⟩,?_⟩;rw [af c9];simp
    ·refine bD (ei.trans (by rw [au c9];rfl)) ⟨_,rfl,rfl,⟨_,rfl⟩,?_⟩;rw [au c9];simp
   rintro ys σ G' ⟨rfl,_,rfl⟩ l5 hl5;rw [aa,ci];have u5:=aA hl5 (.lst ((t.names.filter fun x=> !decide (x∈ks)).map V.str));have g5:aJ G' l5 (.lst ((t.names.filter fun x=> !decide (x∈ks)).map V.str)) l5=some (.lst ((t.names.filter fun x=> !decide (x∈ks)).map V.str)):=aC;replace gl:=u5 _ _ gl;replace s1:=s1.trans u5;generalize aJ G' l5 (.lst ((t.names.filter fun x=> !decide (x∈ks)).map V.str))=G5 at g5 gl s1 ⊢;refine ⟨l5,_,rfl,.inl (bI.of g5),_,_,rfl,rfl,_,rfl,?_⟩;have e9:=qR ks t.names;rw [aa]
   cases hb9:rK ks t.names with
   |true =>
    have hb:true=g3 ks (.lt p x t):=hb9.symm;refine bD (e9.trans hb9) ?_;refine ⟨_,rfl,.inl ⟨rfl,_,bI.of gl⟩,lf,_,_,rfl,rfl,gl,bL (cj L (by decide)),_,_,_,_,rfl,bF s1 hlf,?_⟩;rw [aC,lO, <- hb]
   |false =>
    have hb:false=g3 ks (.lt p x t):=hb9.symm;refine aR (fun z=>by rw [e9,hb9] at z;cases z) ⟨_,_,_,_,rfl,s1,?_⟩;rw [<- hb, <- kP];exact gl
  |tell p t =>
   obtain rfl:p=P:=hP;refine ⟨_,rfl,bJ,fun l3 hl3=>?_⟩;have u3:=aA hl3 (.lst [.int 1,.int 2]);have g3':aJ G2 l3 (.lst [.int 1,.int 2]) l3=some (.lst [.int 1,.int 2]):=aC;replace gl:=u3 _ _ gl;replace hk:=u3 _ _ hk;replace hr0:=cJ.ts (.of u3) _ hr0;replace s1:=s1.trans u3;generalize aJ G2 l3 (.lst [.int 1,.int 2])=G3 at g3' gl hk hr0 s1 ⊢;refine ⟨_,rfl,p,_,_,.str "tell",rfl,rfl,aQ.of hr0.1,rfl,rfl,.inr ⟨_,rfl,l3,_,_,.int 1,rfl,rfl,bI.of g3',by rw [ar (by decide +kernel)];rfl,p,_,_,.ref t.p,rfl,rfl,aQ.of hr0.1,rfl,?_⟩⟩;have tz:=hr0.2.2.2;have td:=t.deep_size;have nl:=t.names_len;refine ⟨_,rfl,t,rfl,hr0.2.1,by (exact oqf),by show t.deep<=101;lia,fun q G4 s4 h4=>?_⟩;replace gl:=s4 _ _ gl;replace hk:=s4 _ _ hk;replace s1:=s1.trans s4;refine ⟨q,rfl,⟨_,bI.of h4⟩,cO (K:=K) (a:=q) (xs:=t.names.map V.str) (fun i ys σ G'=>G'=G4/\(∃ v,σ=[v,some (.ref kn)])/\ys=((t.names.take i).filter fun x=> !decide (x∈ks)).map V.str)
    (cE (by rw [aa];lia)) ⟨rfl,⟨_,rfl⟩,rfl⟩ (by rintro i ys σ G ⟨_,_,e⟩;rw [e,aa];exact cj (gp _ _) (ir _ _)) (by rintro i ys σ G _ ⟨e,_⟩;rw [e];exact bI.of h4) ?_ ?_⟩
   ·rintro i v ys σ G' hv ⟨rfl,⟨v',rfl⟩,rfl⟩;obtain ⟨x9,rfl,hx⟩:=eT hv;refine ⟨_,rfl,_,rfl,kn,_,rfl,.inl (bI.of hk),rfl,eJ _,_,rfl,?_⟩;have ei:(!oM (V.str x9) (ks.map V.str))= !decide (x9∈ks):=by rw [dL]
    rw [iP hx]
    by_cases c9:x9∈ks
    ·refine aR (fun z=>by have z:=ei.symm.trans z;rw [af c9] at z;cases z) ⟨rfl,⟨_,rfl⟩,?_⟩;rw [af c9];simp
    ·refine bD (ei.trans (by rw [au c9];rfl)) ⟨_,rfl,rfl,⟨_,rfl⟩,?_⟩;rw [au c9];simp
   rintro ys σ G' ⟨rfl,_,rfl⟩ l5 hl5;rw [aa,ci];have u5:=aA hl5 (.lst ((t.names.filter fun x=> !decide (x∈ks)).map V.str));have g5:aJ G' l5 (.lst ((t.names.filter fun x=> !decide (x∈ks)).map V.str)) l5=some (.lst ((t.names.filter fun x=> !decide (x∈ks)).map V.str)):=aC;replace gl:=u5 _ _ gl;replace s1:=s1.trans u5;generalize aJ G' l5 (.lst ((t.names.filter fun x=> !decide (x∈ks)).map V.str))=G5 at g5 gl s1 ⊢;refine ⟨l5,_,rfl,.inl (bI.of g5),_,_,rfl,rfl,_,rfl,?_⟩;have e9:=qR ks t.names;rw [aa]
   cases hb9:rK ks t.names with
   |true =>
    have hb:true=g3 ks (.tell p t):=hb9.symm;refine bD (e9.trans hb9) ?_;refine ⟨_,rfl,.inl ⟨rfl,_,bI.of gl⟩,lf,_,_,rfl,rfl,gl,bL (cj L (by decide)),_,_,_,_,rfl,bF s1 hlf,?_⟩;rw [aC,lO, <- hb]
   |false =>
    have hb:false=g3 ks (.tell p t):=hb9.symm;refine aR (fun z=>by rw [e9,hb9] at z;cases z) ⟨_,_,_,_,rfl,s1,?_⟩;rw [<- hb, <- kP];exact gl
  |when p pa pb t a b =>
   obtain rfl:p=P:=hP;refine ⟨_,rfl,bJ,fun l3 hl3=>?_⟩;have u3:=aA hl3 (.lst [.int 1,.int 2]);have g3':aJ G2 l3 (.lst [.int 1,.int 2]) l3=some (.lst [.int 1,.int 2]):=aC;replace gl:=u3 _ _ gl;replace hk:=u3 _ _ hk;replace hr0:=cJ.ts (.of u3) _ hr0;replace s1:=s1.trans u3;generalize aJ G2 l3 (.lst [.int 1,.int 2])=G3 at g3' gl hk hr0 s1 ⊢;refine ⟨_,rfl,p,_,_,.str "when",rfl,rfl,aQ.of hr0.1,rfl,rfl,.inr ⟨_,rfl,l3,_,_,.int 1,rfl,rfl,bI.of g3',by rw [ar (by decide +kernel)];rfl,p,_,_,.ref t.p,rfl,rfl,aQ.of hr0.1,rfl,?_⟩⟩;have tz:=hr0.2.2.1.2;have td:=t.deep_size;have nl:=t.names_len;refine ⟨_,rfl,t,rfl,hr0.2.1,by (exact oqf),by show t.deep<=101;lia,fun q G4 s4 h4=>?_⟩;replace gl:=s4 _ _ gl;replace hk:=s4 _ _ hk;replace s1:=s1.trans s4;refine ⟨q,rfl,⟨_,bI.of h4⟩,cO (K:=K) (a:=q) (xs:=t.names.map V.str) (fun i ys σ G'=>G'=G4/\(∃ v,σ=[v,some (.ref kn)])/\ys=((t.names.take i).filter fun x=> !decide (x∈ks)).map V.str)
    (cE (by rw [aa];lia)) ⟨rfl,⟨_,rfl⟩,rfl⟩ (by rintro i ys σ G ⟨_,_,e⟩;rw [e,aa];exact cj (gp _ _) (ir _ _)) (by rintro i ys σ G _ ⟨e,_⟩;rw [e];exact bI.of h4) ?_ ?_⟩
   ·rintro i v ys σ G' hv ⟨rfl,⟨v',rfl⟩,rfl⟩;obtain ⟨x9,rfl,hx⟩:=eT hv;refine ⟨_,rfl,_,rfl,kn,_,rfl,.inl (bI.of hk),rfl,eJ _,_,rfl,?_⟩;have ei:(!oM (V.str x9) (ks.map V.str))= !decide (x9∈ks):=by rw [dL]
    rw [iP hx]
    by_cases c9:x9∈ks
    ·refine aR (fun z=>by have z:=ei.symm.trans z;rw [af c9] at z;cases z) ⟨rfl,⟨_,rfl⟩,?_⟩;rw [af c9];simp
    ·refine bD (ei.trans (by rw [au c9];rfl)) ⟨_,rfl,rfl,⟨_,rfl⟩,?_⟩;rw [au c9];simp
   rintro ys σ G' ⟨rfl,_,rfl⟩ l5 hl5;rw [aa,ci];have u5:=aA hl5 (.lst ((t.names.filter fun x=> !decide (x∈ks)).map V.str));have g5:aJ G' l5 (.lst ((t.names.filter fun x=> !decide (x∈ks)).map V.str)) l5=some (.lst ((t.names.filter fun x=> !decide (x∈ks)).map V.str)):=aC;replace gl:=u5 _ _ gl;replace s1:=s1.trans u5;generalize aJ G' l5 (.lst ((t.names.filter fun x=> !decide (x∈ks)).map V.str))=G5 at g5 gl s1 ⊢;refine ⟨l5,_,rfl,.inl (bI.of g5),_,_,rfl,rfl,_,rfl,?_⟩;have e9:=qR ks t.names;rw [aa]
   cases hb9:rK ks t.names with
   |true =>
    have hb:true=g3 ks (.when p pa pb t a b):=hb9.symm;refine bD (e9.trans hb9) ?_;refine ⟨_,rfl,.inl ⟨rfl,_,bI.of gl⟩,lf,_,_,rfl,rfl,gl,bL (cj L (by decide)),_,_,_,_,rfl,bF s1 hlf,?_⟩;rw [aC,lO, <- hb]
   |false =>
    have hb:false=g3 ks (.when p pa pb t a b):=hb9.symm;refine aR (fun z=>by rw [e9,hb9] at z;cases z) ⟨_,_,_,_,rfl,s1,?_⟩;rw [<- hb, <- kP];exact gl
 rintro σ G ⟨v3,v4,v5,v6,rfl,s1,gl⟩;replace hr0:cJ G r:=cJ.ts (.of s1) r hr00;replace hk:=s1 _ _ hk0;refine ⟨fun σ G=>∃ (v3 v4 v5 v6:Option V),σ=[some (.ref r.p),some (.ref kn),some (.ref lf),v3,v4,v5,v6]/\bB H G/\G lf=some (.lst ((([]:List Str)++bw "range" (g1 r)++bw "range" (g2 r)++bw "unknown" (g3 ks r)++bw "tells" (g4 r)).map V.str)),?_,?_⟩
 ·have L:((([]:List Str)++bw "range" (g1 r)++bw "range" (g2 r)++bw "unknown" (g3 ks r)).map V.str).length<=3:=by simp only [List.length_append,List.length_map,List.length_nil];have:=gP "range" (g1 r);have:=gP "range" (g2 r);have:=gP "unknown" (g3 ks r);lia
  refine ⟨fun b G'=>bB G G'/\b=g4 r,?_,?_⟩
  ·refine ⟨_,rfl,r.p,_,_,.str r.w,rfl,rfl,aQ.of hr0.at,fL,rfl,_,rfl,?_⟩
   by_cases c:r.w="when"
   ·refine bD (af (by rw [c])) ?_;generalize hP:r.p=P
    cases r with
    |when p pa pb t a b =>
     obtain rfl:p=P:=hP;obtain ⟨hp,tm,tf,ga,gb,ra,rb⟩:=hr0;simp only [Rw.cnt] at hc;simp only [Rw.dp] at hd;refine ⟨_,rfl,p,_,_,.ref pa,rfl,rfl,aQ.of hp,rfl,pa,a,rfl,ga,ra,ht.1,by lia,by show dI a+1<=8;lia,fun G2 s2=>?_⟩;refine ⟨_,rfl,p,_,_,.ref pb,rfl,rfl,aQ.of (s2 _ _ hp),rfl,pb,b,rfl,s2 _ _ gb,aX.ts (.of s2) b rb,ht.2,by lia,by show dI b+1<=8;lia,fun G3 s3=>?_⟩;refine ⟨rfl,_,rfl,s2.trans s3,?_⟩;simp only [g4]
     congr 1
     exact oe.mpr ⟨fun h=>by injection h,fun h=>by rw [h]⟩
    |thr p w x us am=>exact absurd c (fun z=>qV hr0.2.w (by rw [show w="when" from z]))
    |lt p x t=>exact absurd c (show ¬ ("let": Str)="when" by decide +kernel)
    |tell p t=>exact absurd c (show ¬ ("tell": Str)="when" by decide +kernel)
    |times p pb n b=>exact absurd c (show ¬ ("times": Str)="when" by decide +kernel)
   ·exact aR (fun z=>c (by have z:=ag z;injection z)) ⟨bB.refl _,(bT0 c).symm⟩
  rintro b G2 ⟨s2,hb⟩;replace gl:=s2 _ _ gl;replace s1:=s1.trans s2
  cases b with
  |true =>
   refine bD rfl ?_;refine ⟨_,rfl,.inl ⟨rfl,_,bI.of gl⟩,lf,_,_,rfl,rfl,gl,bL (cj L (by decide)),_,_,_,_,rfl,bF s1 hlf,?_⟩;rw [aC,lO, <- hb]
  |false =>
   refine aR (by simp) ⟨_,_,_,_,rfl,s1,?_⟩;rw [<- hb, <- kP];exact gl
 rintro σ G ⟨v3,v4,v5,v6,rfl,s1,gl⟩;replace hr0:cJ G r:=cJ.ts (.of s1) r hr00;replace hk:=s1 _ _ hk0;refine ⟨_,rfl,k lf G s1 ?_⟩;rw [gl,ou, <- zX 0 ks r,ke];rfl
theorem aY5 (n:Nat) (C_Fls:Cl P w K mg base (n+104) (uG n) "_law_faults") (C_RFl:Cl P w K mg base 103 spRFlt "_law_row_faults"):gN P w K mg base "_law_faults" "_law_faults" bS1 (n+104+1) ["_law_rows","_law_at","_law_known"] (uG (n+1)):=by
 refine iV ["_law_rows","_law_at","_law_known","_law_found","_law_row","_law_more","_law_ones","_law_others","_law_twos"] fun H Q nd hr h=>?_
 obtain ⟨p,kn,ks,rs,k0,i0,rfl,hi0,hp,hk,hkl,hR,hT,hC,hD6,hD,k⟩:=h;refine ⟨_,(@aE _ _ _ _ _ (kZ 3 nd (bS cF))
  (@aE _ _ _ _ _ (pfr (mC (pv 0)) (eO 4 nd)
  (@aE _ _ _ _ _ (bR (dG aj fu fv gE (pv 3) (aN (cQ ["_law_word","_law_at"] [none,some 1] (dW (bW C_RFl hr (aB (pv 4) (aN (pv 2))))) (fun _ _ _ _=>(eO 0)) (fun _ _ _ _=>eK) (fun _ _ _ _=>(aL (aB (pv 0) (aN (pv 1)))))))))
  (@aE _ _ _ _ _ (kZ 1 nd (aM bT (pv 1) aD))
  (@aE _ _ _ _ _ (bE (dM cU (bV aI (pv 4) aD) (@aL _ _ _ _ _ (@aB _ _ _ _ _ aG (@aB _ _ _ _ _ aG (@aB _ _ _ _ _ aG (@aB _ _ _ _ _ aG (@aB _ _ _ _ _ aG cF rfl) rfl) rfl) rfl) rfl))) (aF (kZ 2 nd (aM fR (pv 2) (bS (aN (bV aI (pv 4) aD)))))) aO)
  (@aE _ _ _ _ _ (bE (dM bP (bV aI (pv 4) aD) aG) (aE (fU (bW C_Fls hr (aB (bV aI (pv 4) aD) (aB (pv 1) (aN (pv 2))))) (eG rfl (aY (eO 5 nd) (aY (eO 1 nd) (aY (eO 2 nd) dN)))))
  (aF (bR (dG aj fu fv gE (pv 3) (aN (pv 5)))))) aO)
  (@aF _ _ _ (bE (dM bP (bV aI (pv 4) aD) aG) (aE (fU (bW C_Fls hr (aB (bV aI (pv 4) aD) (aB (pv 1) (aN (pv 2))))) (eG rfl (aY (eO 5 nd) (aY (eO 1 nd) (aY (eO 6 nd) dN)))))
  (aE (fU (bW C_Fls hr (aB (bV aI (pv 4) aD) (aB (pv 1) (aN (pv 2))))) (eG rfl (aY (eO 7 nd) (aY (eO 1 nd) (aY (eO 8 nd) dN)))))
  (aE (bR (dG aj fu fv gE (pv 3) (aN (aM fR (pv 5) (pv 7)))))
  (aF (oX ["_law_name","_law_ones"] [none,some 6] (i:=2) nd rfl (ii rfl) (dW (pv 8)) (fun _ _ _ _=>(eO 0)) (fun _ _ _ _=>(mE (dM (inK K) (pv 0) (pv 1)))) (fun _ _ _ _=>(pv 0))))))) aO)))))))
  (@aF _ _ _ (aU (aL (aB (pv 3) (aB (pv 1) (aN (pv 2))))))))),?_⟩
 have rl:=eI rs;refine ⟨av _,fun lf hlf=>?_⟩;have s1:=aA hlf (.lst []);have g1':aJ H lf (.lst []) lf=some (.lst []):=aC;generalize aJ H lf (.lst [])=H1 at s1 g1' ⊢;refine ⟨_,rfl,p,rfl,⟨_,aQ.of (s1 _ _ hp)⟩,aP3 (K:=K) (a:=p) (xs:=bG rs) (fun i σ G=>∃ (kn':Addr) (j:Int) (zs:List V) (v4 v5 v6 v7 v8:Option V),σ=[some (.ref p),some (.int j),some (.ref kn'),some (.ref lf),v4,v5,v6,v7,v8]/\j=((k0+aP (rs.take i):Nat):Int)/\bB H G/\G lf=some (.lst zs)/\eL (lU G) zs (iW k0 ks (rs.take i))/\G kn'=some (.lst ((fX ks (rs.take i)).map V.str))/\kn'≠lf/\(kn'=kn\/H kn'=none))
  ⟨kn,i0,[],_,_,_,_,_,rfl,by rw [hi0];rfl,s1,g1',trivial,s1 _ _ hk,aK hk hlf,.inl rfl⟩ (by rintro i σ G _ ⟨_,_,_,_,_,_,_,_,_,_,e,_⟩;exact aQ.of (e _ _ hp)) ?_ ?_⟩
 ·rintro D' N i hN v σ G hv ⟨kn',j,zs,v4,v5,v6,v7,v8,rfl,hj,s2,gl,tw,gk,nk,fk⟩;obtain ⟨r,rfl,hr⟩:=iM hv;have mr:=ap hr;obtain ⟨ct,ct2⟩:=aJ0 hr;have dr:=fW mr;have tr:=hT.mem mr;have cp:=r.cnt_pos;rw [ct,bK hr,wQ,vA] at hN;have zl:=tw.length;have fl:=gH (rs.take i) k0 ks;have kl:=nK (rs.take i) ks;have ol:=lP (k0+aP (rs.take i)) (fX ks (rs.take i)) r;have hr0:=cJ.ts (.of s2) r (hR.mem r mr);refine ⟨_,rfl,.inl ⟨rfl,_,bI.of gl⟩,_,rfl,_,rfl,kn',_,r,rfl,gk,by lia,hr0,tr,by lia,by (exact oqj),fun q G2 s3 h3=>?_⟩;rw [bC5 (k0+aP (rs.take i))] at h3;refine ⟨q,rfl,⟨_,bI.of h3⟩,cO (K:=K) (a:=q) (xs:=(iF (k0+aP (rs.take i)) (fX ks (rs.take i)) r).map fun m=>V.str (rH m.2)) (fun m ys σ G'=>bB G2 G'/\(∃ v,σ=[v,some (.int j)])/\eL (lU G') ys ((iF (k0+aP (rs.take i)) (fX ks (rs.take i)) r).take m))
   (cE (by rw [aa];(exact oqf))) ⟨bB.refl _,⟨_,rfl⟩,trivial⟩ (by rintro m ys σ G ⟨_,_,e⟩;rw [e.length,cv];lia) (by rintro m ys σ G _ ⟨e,_⟩;exact bI.of (e _ _ h3)) ?_ ?_⟩
  ·rintro m v ys σ G' hv ⟨s4,⟨v',rfl⟩,tw4⟩;rw [dh] at hv;obtain ⟨f,hf,rfl⟩:=ng.mp hv;refine ⟨_,rfl,_,rfl,bJ,fun t ht=>⟨s4.trans (aA ht _),⟨_,rfl⟩,?_⟩⟩;rw [bK hf];have fe:=bH8 _ _ _ _ (ap hf);exact eL.append (tw4.mono fun _ _ z=>lU.ts (.of (aA ht _)) z) ⟨⟨t,rfl,by rw [fe, <- hj];exact aC⟩,trivial⟩
  rintro ys σ G4 ⟨s4,_,tw4⟩ l5 hl5;rw [aa,ci] at tw4;have u5:=aA hl5 (.lst ys);have g5:aJ G4 l5 (.lst ys) l5=some (.lst ys):=aC;have s35:=s3.trans (s4.trans u5);replace gl:=s35 _ _ gl;replace gk:=s35 _ _ gk;replace tw:=tw.mono fun _ _ z=>lU.ts (.of s35) z
  replace tw4:=tw4.mono fun _ _ z=>lU.ts (.of u5) z
  replace hr0:=cJ.ts (.of s35) r hr0;replace s35:=s2.trans s35;clear u5;generalize aJ G4 l5 (.lst ys)=G5 at g5 gl gk tw tw4 hr0 s35 ⊢;have yl:=tw4.length;refine ⟨lf,l5,_,_,rfl,rfl,gl,g5,bu (cE (by lia)),?_⟩;have l6:=TS.lst (ys:=zs++ys) gl;have s5:bB H (aJ G5 lf (.lst (zs++ys))):=bF s35 hlf;replace gk:aJ G5 lf (.lst (zs++ys)) kn'=_:=(aH nk).trans gk;replace tw:=eL.append (tw.mono fun _ _ z=>lU.ts l6 z) (tw4.mono fun _ _ z=>lU.ts l6 z);replace hr0:=cJ.ts l6 r hr0;replace gl:aJ G5 lf (.lst (zs++ys)) lf=some (.lst (zs++ys)):=aC;clear l6 s35 tw4 g5 h3 s2;generalize aJ G5 lf (.lst (zs++ys))=G5 at s5 gk tw hr0 gl ⊢;have zl2:=tw.length;have ol2:=lP (k0+aP (rs.take i)) (fX ks (rs.take i)) r
  conv at zl2=>rhs;rw [ak]
  generalize zs++ys=zs at gl tw zl2;refine ⟨_,rfl,_,_,rfl,rfl,?_⟩;generalize hP:r.p=P
  cases r with
  |thr p w x us am =>
   obtain rfl:p=P:=hP;have hw:=hr0.2.w;refine ⟨_,rfl,p,_,_,.str w,rfl,rfl,aQ.of hr0.1,fL,by show 5<=sizeLine;decide,fun t6 ht6=>?_⟩;obtain ⟨G6,e0,s6,gt6⟩:=hV ht6 (.tup [.str "ladder",.str "flat",.str "choose",.str "first",.str "let"]);rw [e0];clear e0;refine ⟨t6,[.str "ladder",.str "flat",.str "choose",.str "first",.str "let"],rfl,.inr (aQ.of gt6),rfl,by decide,_,rfl,?_⟩;replace hr0:=cJ.ts (.of s6) _ hr0;replace gl:=s6 _ _ gl;replace gk:=s6 _ _ gk;replace tw:=tw.mono fun _ _ z=>lU.ts (.of s6) z
   replace s5:=s5.trans s6;clear s6 gt6;refine bD ((aA9 w).trans (af (aQ2 hw))) ?_;refine ⟨_,rfl,_,rfl,p,_,_,.str x,rfl,rfl,aQ.of hr0.1,at1,eQ,fun l7 hl7=>?_⟩;refine ⟨kn',l7,_,_,rfl,rfl,(aA hl7 (.lst [.str x])) _ _ gk,aC,bu (cE (by rw [aa];show _+1<=_;lia)),fun l8 hl8=>?_⟩;have s8:=(aA hl7 (.lst [.str x])).trans (aA hl8 (.lst ((fX ks (rs.take i)).map V.str++[.str x])));have g8:aJ (aJ G6 l7 (.lst [.str x])) l8 (.lst ((fX ks (rs.take i)).map V.str++[.str x])) l8=some (.lst ((fX ks (rs.take i)++[x]).map V.str)):=by rw [aC,bg];rfl
   have n8:l8≠lf:=fun z=>by rw [z,(aA hl7 (.lst [.str x])) _ _ gl] at hl8;cases hl8
   have f8:H l8=none:=(s5.trans (aA hl7 (.lst [.str x]))).free hl8;replace hr0:=cJ.ts (.of s8) _ hr0;replace gl:=s8 _ _ gl;replace tw:=tw.mono fun _ _ z=>lU.ts (.of s8) z
   replace s5:=s5.trans s8;clear s8 gk;generalize aJ (aJ G6 l7 (.lst [.str x])) l8 (.lst ((fX ks (rs.take i)).map V.str++[.str x]))=G8 at g8 hr0 gl tw s5 ⊢;refine ⟨_,rfl,p,_,_,.str w,rfl,rfl,aQ.of hr0.1,fL,rfl,_,rfl,aR (fun z=>xF hw (ag z)) ?_⟩;refine ⟨_,rfl,p,_,_,.str w,rfl,rfl,aQ.of hr0.1,fL,rfl,_,rfl,aR (fun z=>qV hw (ag z)) ?_⟩;refine hN _ _ ⟨l8,_,_,_,_,_,_,_,rfl,by simp only [Rw.cnt];lia,s5,gl,?_,?_,n8,.inr f8⟩
   ·rw [pT]
    simpa using tw
   ·simpa only [lk] using g8
  |lt p x t =>
   obtain rfl:p=P:=hP;refine ⟨_,rfl,p,_,_,.str "let",rfl,rfl,aQ.of hr0.1,fL,by show 5<=sizeLine;decide,fun t6 ht6=>?_⟩;obtain ⟨G6,e0,s6,gt6⟩:=hV ht6 (.tup [.str "ladder",.str "flat",.str "choose",.str "first",.str "let"]);rw [e0];clear e0;refine ⟨t6,[.str "ladder",.str "flat",.str "choose",.str "first",.str "let"],rfl,.inr (aQ.of gt6),rfl,by decide,_,rfl,?_⟩;replace hr0:=cJ.ts (.of s6) _ hr0;replace gl:=s6 _ _ gl;replace gk:=s6 _ _ gk;replace tw:=tw.mono fun _ _ z=>lU.ts (.of s6) z
   replace s5:=s5.trans s6;clear s6 gt6;refine bD (by decide +kernel) ?_;refine ⟨_,rfl,_,rfl,p,_,_,.str x,rfl,rfl,aQ.of hr0.1,rfl,eQ,fun l7 hl7=>?_⟩;refine ⟨kn',l7,_,_,rfl,rfl,(aA hl7 (.lst [.str x])) _ _ gk,aC,bu (cE (by rw [aa];show _+1<=_;lia)),fun l8 hl8=>?_⟩;have s8:=(aA hl7 (.lst [.str x])).trans (aA hl8 (.lst ((fX ks (rs.take i)).map V.str++[.str x])));have g8:aJ (aJ G6 l7 (.lst [.str x])) l8 (.lst ((fX ks (rs.take i)).map V.str++[.str x])) l8=some (.lst ((fX ks (rs.take i)++[x]).map V.str)):=by rw [aC,bg];rfl
   have n8:l8≠lf:=fun z=>by rw [z,(aA hl7 (.lst [.str x])) _ _ gl] at hl8;cases hl8
   have f8:H l8=none:=(s5.trans (aA hl7 (.lst [.str x]))).free hl8;replace hr0:=cJ.ts (.of s8) _ hr0;replace gl:=s8 _ _ gl;replace tw:=tw.mono fun _ _ z=>lU.ts (.of s8) z
   replace s5:=s5.trans s8;clear s8 gk;generalize aJ (aJ G6 l7 (.lst [.str x])) l8 (.lst ((fX ks (rs.take i)).map V.str++[.str x]))=G8 at g8 hr0 gl tw s5 ⊢;refine ⟨_,rfl,p,_,_,.str "let",rfl,rfl,aQ.of hr0.1,fL,rfl,_,rfl,aR (by decide +kernel) ?_⟩;refine ⟨_,rfl,p,_,_,.str "let",rfl,rfl,aQ.of hr0.1,fL,rfl,_,rfl,aR (by decide +kernel) ?_⟩;refine hN _ _ ⟨l8,_,_,_,_,_,_,_,rfl,by simp only [Rw.cnt];lia,s5,gl,?_,?_,n8,.inr f8⟩
   ·rw [pT]
    simpa using tw
   ·simpa only [lk] using g8
  |tell p t =>
   obtain rfl:p=P:=hP;refine ⟨_,rfl,p,_,_,.str "tell",rfl,rfl,aQ.of hr0.1,fL,by show 5<=sizeLine;decide,fun t6 ht6=>?_⟩;obtain ⟨G6,e0,s6,gt6⟩:=hV ht6 (.tup [.str "ladder",.str "flat",.str "choose",.str "first",.str "let"]);rw [e0];clear e0;refine ⟨t6,[.str "ladder",.str "flat",.str "choose",.str "first",.str "let"],rfl,.inr (aQ.of gt6),rfl,by decide,_,rfl,?_⟩;replace hr0:=cJ.ts (.of s6) _ hr0;replace gl:=s6 _ _ gl;replace gk:=s6 _ _ gk;replace tw:=tw.mono fun _ _ z=>lU.ts (.of s6) z
   replace s5:=s5.trans s6;clear s6 gt6;refine aR (by decide +kernel) ?_;refine ⟨_,rfl,p,_,_,.str "tell",rfl,rfl,aQ.of hr0.1,fL,rfl,_,rfl,aR (by decide +kernel) ?_⟩;refine ⟨_,rfl,p,_,_,.str "tell",rfl,rfl,aQ.of hr0.1,fL,rfl,_,rfl,aR (by decide +kernel) ?_⟩;refine hN _ _ ⟨kn',_,_,_,_,_,_,_,rfl,by simp only [Rw.cnt];lia,s5,gl,?_,?_,nk,fk⟩
   ·rw [pT]
    simpa using tw
   ·simpa only [lk] using gk
  |times p pb m b =>
   obtain rfl:p=P:=hP;refine ⟨_,rfl,p,_,_,.str "times",rfl,rfl,aQ.of hr0.1,fL,by show 5<=sizeLine;decide,fun t6 ht6=>?_⟩;obtain ⟨G6,e0,s6,gt6⟩:=hV ht6 (.tup [.str "ladder",.str "flat",.str "choose",.str "first",.str "let"]);rw [e0];clear e0;refine ⟨t6,[.str "ladder",.str "flat",.str "choose",.str "first",.str "let"],rfl,.inr (aQ.of gt6),rfl,by decide,_,rfl,?_⟩;replace hr0:=cJ.ts (.of s6) _ hr0;replace gl:=s6 _ _ gl;replace gk:=s6 _ _ gk;replace tw:=tw.mono fun _ _ z=>lU.ts (.of s6) z
   replace s5:=s5.trans s6;clear s6 gt6;refine aR (by decide +kernel) ?_;simp only [Rw.cnt] at ct2;simp only [Rw.dp] at dr
   cases n with
   |zero=>exact absurd hD (by lia)
   |succ n =>
   refine ⟨_,rfl,p,_,_,.str "times",rfl,rfl,aQ.of hr0.1,fL,rfl,_,rfl,bD (af rfl) ?_⟩;refine ⟨_,rfl,p,_,_,.ref pb,rfl,rfl,aQ.of hr0.1,rfl,_,rfl,_,rfl,pb,kn',_,b,k0+aP (rs.take i)+1,_,rfl,by lia,hr0.2.1,gk,by lia,hr0.2.2,tr.2.2,by lia,by lia,by lia,fun t7 q7 kn7 j7 zs7 G7 s7 h7 e7 hq7 fq7 tw7 gk7 fk7=>?_⟩;refine ⟨t7,_,rfl,aQ.of h7,rfl,_,_,rfl,_,_,rfl,_,_,rfl,rfl,?_⟩;have nk7:kn7≠lf:=by
    rcases fk7 with z | z
    ·rw [z];exact nk
    ·exact (aK gl z).symm
   have FK7:kn7=kn\/H kn7=none:=by
    rcases fk7 with z | z
    ·rw [z];exact fk
    ·exact .inr (s5.free z)
   replace gl:=s7 _ _ gl;replace tw:=tw.mono fun _ _ z=>lU.ts (.of s7) z
   replace hr0:=cJ.ts (.of s7) _ hr0;replace s5:=s5.trans s7;have zl7:=tw7.length;have fl7:=gH b (k0+aP (rs.take i)+1) (fX ks (rs.take i));refine ⟨_,rfl,.inl ⟨rfl,_,bI.of gl⟩,_,rfl,lf,q7,_,_,rfl,rfl,gl,hq7,bu (cE (by lia)),?_⟩;have l8:=TS.lst (ys:=zs++zs7) gl;have hr8:=cJ.ts l8 _ hr0;refine ⟨_,rfl,p,_,_,.str "times",rfl,rfl,aQ.of hr8.1,fL,rfl,_,rfl,aR (by decide +kernel) ?_⟩;refine hN _ _ ⟨kn7,j7,_,_,_,_,_,_,rfl,by simp only [Rw.cnt];lia,bF s5 hlf,aC,?_,?_,nk7,FK7⟩
   ·rw [pT, <- mo];exact eL.append (tw.mono fun _ _ z=>lU.ts l8 z) (tw7.mono fun _ _ z=>lU.ts l8 z)
   ·rw [aH nk7]
    simpa only [lk] using gk7
  |when p pa pb t a b =>
   obtain rfl:p=P:=hP;refine ⟨_,rfl,p,_,_,.str "when",rfl,rfl,aQ.of hr0.1,fL,by show 5<=sizeLine;decide,fun t6 ht6=>?_⟩;obtain ⟨G6,e0,s6,gt6⟩:=hV ht6 (.tup [.str "ladder",.str "flat",.str "choose",.str "first",.str "let"]);rw [e0];clear e0;refine ⟨t6,[.str "ladder",.str "flat",.str "choose",.str "first",.str "let"],rfl,.inr (aQ.of gt6),rfl,by decide,_,rfl,?_⟩;replace hr0:=cJ.ts (.of s6) _ hr0;replace gl:=s6 _ _ gl;replace gk:=s6 _ _ gk;replace tw:=tw.mono fun _ _ z=>lU.ts (.of s6) z
   replace s5:=s5.trans s6;clear s6 gt6;refine aR (by decide +kernel) ?_;simp only [Rw.cnt] at ct2;simp only [Rw.dp] at dr
   cases n with
   |zero=>exact absurd hD (by lia)
   |succ n =>
   refine ⟨_,rfl,p,_,_,.str "when",rfl,rfl,aQ.of hr0.1,fL,rfl,_,rfl,aR (by decide +kernel) ?_⟩;refine ⟨_,rfl,p,_,_,.str "when",rfl,rfl,aQ.of hr0.1,fL,rfl,_,rfl,bD (af rfl) ?_⟩;obtain ⟨hp0,tm,tf,ga,gb,ra,rb⟩:=id hr0;refine ⟨_,rfl,p,_,_,.ref pa,rfl,rfl,aQ.of hp0,rfl,_,rfl,_,rfl,pa,kn',_,a,k0+aP (rs.take i)+1,_,rfl,by lia,ga,gk,by lia,ra,tr.1,by lia,by lia,by lia,fun t7 q7 kn7 j7 zs7 G7 s7 h7 e7 hq7 fq7 tw7 gk7 fk7=>?_⟩;refine ⟨t7,_,rfl,aQ.of h7,rfl,_,_,rfl,_,_,rfl,_,_,rfl,rfl,?_⟩;refine ⟨_,rfl,p,_,_,.ref pb,rfl,rfl,aQ.of (s7 _ _ hp0),rfl,_,rfl,_,rfl,pb,kn',_,b,k0+aP (rs.take i)+1+aP a,_,rfl,e7,s7 _ _ gb,s7 _ _ gk,by lia,aX.ts (.of s7) b rb,tr.2,by lia,by lia,by lia,fun t8 q8 kn8 j8 zs8 G8 s8 h8 e8 hq8 fq8 tw8 gk8 fk8=>?_⟩;refine ⟨t8,_,rfl,aQ.of h8,rfl,_,_,rfl,_,_,rfl,_,_,rfl,rfl,?_⟩;have s78:=s7.trans s8;have nk7:kn7≠lf:=by
    rcases fk7 with z | z
    ·rw [z];exact nk
    ·exact (aK gl z).symm
   have nk8:kn8≠lf:=by
    rcases fk8 with z | z
    ·rw [z];exact nk
    ·exact (aK (s7 _ _ gl) z).symm
   replace gl:=s78 _ _ gl;replace tw:=tw.mono fun _ _ z=>lU.ts (.of s78) z
   replace tw7:=tw7.mono fun _ _ z=>lU.ts (.of s8) z
   replace hq7:=s8 _ _ hq7;replace gk7:=s8 _ _ gk7;replace s5:=s5.trans s78;have zl7:=tw7.length;have zl8:=tw8.length;have fl7:=gH a (k0+aP (rs.take i)+1) (fX ks (rs.take i));have fl8:=gH b (k0+aP (rs.take i)+1+aP a) (fX ks (rs.take i));refine ⟨_,rfl,.inl ⟨rfl,_,bI.of gl⟩,_,rfl,_,rfl,q7,q8,_,_,rfl,rfl,hq7,hq8,bu (cE (by lia)),fun l9 hl9=>?_⟩;have u9:=aA hl9 (.lst (zs7++zs8));have g9:aJ G8 l9 (.lst (zs7++zs8)) l9=some (.lst (zs7++zs8)):=aC;have tw9:=eL.append (tw7.mono fun _ _ z=>lU.ts (.of u9) z) (tw8.mono fun _ _ z=>lU.ts (.of u9) z);replace gl:=u9 _ _ gl;replace tw:=tw.mono fun _ _ z=>lU.ts (.of u9) z
   replace gk7:=u9 _ _ gk7;replace gk8:=u9 _ _ gk8;replace s5:=s5.trans u9;generalize aJ G8 l9 (.lst (zs7++zs8))=G9 at g9 tw9 gl tw gk7 gk8 s5 ⊢;refine ⟨lf,l9,_,_,rfl,rfl,gl,g9,bu (cE (by rw [ak];lia)),?_⟩;have lA:=TS.lst (ys:=zs++(zs7++zs8)) gl;have twA:=eL.append (tw.mono fun _ _ z=>lU.ts lA z) (tw9.mono fun _ _ z=>lU.ts lA z);have gk7A:aJ G9 lf (.lst (zs++(zs7++zs8))) kn7=_:=(aH nk7).trans gk7;have gk8A:aJ G9 lf (.lst (zs++(zs7++zs8))) kn8=_:=(aH nk8).trans gk8;have glA:aJ G9 lf (.lst (zs++(zs7++zs8))) lf=some (.lst (zs++(zs7++zs8))):=aC;have sA:bB H (aJ G9 lf (.lst (zs++(zs7++zs8)))):=bF s5 hlf;generalize aJ G9 lf (.lst (zs++(zs7++zs8)))=GA at twA gk7A gk8A glA sA ⊢;have lb:=nK b (fX ks (rs.take i));refine ⟨_,rfl,kn8,rfl,⟨_,bI.of gk8A⟩,cO (K:=K) (a:=kn8) (xs:=(fX (fX ks (rs.take i)) b).map V.str) (fun m ys σ G'=>G'=GA/\(∃ v,σ=[v,some (.ref kn7)])/\ys=(((fX (fX ks (rs.take i)) b).take m).filter fun x=>decide (x∈fX (fX ks (rs.take i)) a)).map V.str)
    (cE (by rw [aa];lia)) ⟨rfl,⟨_,rfl⟩,rfl⟩ (by rintro m ys σ G ⟨_,_,e⟩;rw [e,aa];exact cj (gp _ _) (ir _ _)) (by rintro m ys σ G _ ⟨e,_⟩;rw [e];exact bI.of gk8A) ?_ ?_⟩
   ·rintro m v ys σ G' hv ⟨rfl,⟨v',rfl⟩,rfl⟩;obtain ⟨x9,rfl,hx⟩:=eT hv;refine ⟨_,rfl,_,rfl,kn7,_,rfl,.inl (bI.of gk7A),rfl,eJ _,_,rfl,?_⟩;have ei:oM (V.str x9) ((fX (fX ks (rs.take i)) a).map V.str)=decide (x9∈fX (fX ks (rs.take i)) a):=dL _ _;rw [iP hx]
    by_cases c9:x9∈fX (fX ks (rs.take i)) a
    ·refine bD (ei.trans (af c9)) ⟨_,rfl,rfl,⟨_,rfl⟩,?_⟩;rw [af c9];simp
    ·refine aR (fun z=>c9 (ag (ei.symm.trans z))) ⟨rfl,⟨_,rfl⟩,?_⟩;rw [au c9];simp
   rintro ys σ G' ⟨rfl,_,rfl⟩ lB hlB;rw [aa,ci];have uB:=aA hlB (.lst (((fX (fX ks (rs.take i)) b).filter fun x=>decide (x∈fX (fX ks (rs.take i)) a)).map V.str));have nB:lB≠lf:=fun z=>by rw [z,glA] at hlB;cases hlB
   refine hN _ _ ⟨lB,j8,zs++(zs7++zs8),_,_,_,_,_,rfl,by simp only [Rw.cnt];lia,sA.trans uB,uB _ _ glA,?_,?_,nB,.inr (sA.free hlB)⟩
   ·rw [pT];have h:=twA.mono fun _ _ z=>lU.ts (.of uB) z
    simpa only [<- List.append_assoc] using h
   ·simp only [lk];exact aC
 ·rintro σ G ⟨kn',j,zs,v4,v5,v6,v7,v8,rfl,hj,s2,gl,tw,gk,nk,fk⟩;rw [bU,ci] at hj tw gk;refine ⟨_,rfl,_,rfl,_,rfl,by show 3<=sizeLine;decide,fun t ht=>?_⟩;have u:=aA ht (.tup [.ref lf,.int j,.ref kn']);exact k t lf kn' j zs _ (s2.trans u) aC hj (u _ _ gl) hlf (tw.mono fun _ _ z=>lU.ts (.of u) z) (u _ _ gk) fk
theorem bH9 (C_Fls:Cl P w K mg base 112 (uG 8) "_law_faults") (C_RAt:Cl P w K mg base 9 (jL 8) "_law_row_at") (C_Pth:Cl P w K mg base 9 (jO 8) "_law_paths") (m_len:mg "len"=none) (m_set:mg "set"=none):gN P w K mg base "_law_due" "_law_due" bO6 113 ["_law_program_here"] spDue:=by
 refine iV ["_law_program_here","_law_kinds","_law_rows","_law_found","_law_at","_law_known"] fun H Q nd hr h=>?_
 obtain ⟨p,ks,rs,rfl,PGG,k⟩:=h;have hr1:eE 1 _:=hr.mono (by decide);refine ⟨_,(aE (fU (pv 0) (eG rfl (aY (eO 1 nd) (aY (eO 2 nd) dN))))
  (aE (bE (dY (PW.pt (nI (dM bP (iK aW m_len bz (aN (pv 1))) aD) (mK (dM eW (iK aW m_len bz (aN (pv 1))) aD))))) (aF (aU (aL (aB aG (aN lY))))) aO)
  (aE (bE (dM mU (iK (sE P w) m_len bz (aN (xD (tP P w hr1) m_set vg (aN (pv 1))))) (iK aW m_len bz (aN (pv 1)))) (aF (aU (aL (aB aG (aN lY))))) aO)
  (aE (fU (bW C_Fls hr (aB (pv 2) (aB aD (aN (bS cF))))) (eG rfl (aY (eO 3 nd) (aY (eO 4 nd) (aY (eO 5 nd) dN)))))
  (aE (fK (bE (dM nJ aG (cQ ["_law_path","_law_rows"] [none,some 2] (dW (bW C_Pth hr (aN (pv 2)))) (fun _ _ _ _=>(eO 0)) (fun _ _ _ _=>eK) (fun _ _ _ _=>(bV (oR K) (bW C_RAt hr (aB (pv 1) (aN (pv 0)))) aD)))) (aF (bR (dG aj bo bq bM (pv 3) (aN (aL (aB aG (aN lY))))))) aO))
  (aF (aU (bV cY (aM fR (pv 3) (bS (aN aK3))) aD)))))))),?_⟩
 obtain ⟨PG,kl⟩:=PGG;obtain ⟨pk,pr,hp,hk,hpr⟩:=PG.ex;have hC:=PG.cnt;have hD:=PG.dp;refine ⟨_,rfl,p,_,rfl,aQ.of hp,rfl,_,_,rfl,_,_,rfl,rfl,?_⟩;refine ⟨fun b G=>G=H/\(b=true↔(ks.length=0\/3 < ks.length)),?_,?_⟩
 ·refine ⟨_,rfl,pk,_,rfl,.inr (aQ.of hk),rfl,_,rfl,?_⟩;rw [aa]
  by_cases c:ks.length=0
  ·exact bD (af (by rw [c];rfl)) ⟨rfl,fun _=> .inl c,fun _=>rfl⟩
  ·refine aR (fun z=>c (by have z:=ag z;injection z with z;lia)) ?_;refine ⟨_,rfl,pk,_,rfl,.inr (aQ.of hk),_,_,rfl,rfl,_,rfl,rfl,?_⟩;rw [aa];exact ⟨fun z=> .inr (by have:=ag z;lia),fun z=>af (by lia)⟩
 rintro b G ⟨rfl,hb⟩
 cases b with
 |true =>
  refine bD rfl ⟨bJ,fun t ht=>k (.ref t) _ (aA ht _) ?_⟩;rw [rQ (hb.mp rfl)];exact ⟨t,rfl,aC⟩
 |false =>
 have nk:¬ (ks.length=0\/3 < ks.length):=fun z=>by have:=hb.mpr z;cases this
 refine aR (by simp) ?_;have em:ks.map V.str=(ks.map fun x=>(Sum.inr x:Key)).map kV:=by rw [ke];rfl
 refine ⟨_,rfl,pk,ks.map (fun x=>(Sum.inr x:Key)),rfl,by rw [<- em];exact aQ.of hk,by rw [aa];(exact oqf),fun aS haS=>?_⟩;obtain ⟨HS,e0,sS,gS⟩:=hV haS (tL P w aS (ks.map fun x=>(Sum.inr x:Key)));rw [e0];clear e0;refine ⟨aS,_,rfl,gS,_,rfl,pk,_,rfl,.inr (aQ.of (sS _ _ hk)),_,_,rfl,rfl,_,rfl,?_⟩;rw [aa];have tw2:=vC ks
 by_cases nd:¬ ks.Nodup
 ·refine bD (tw2.trans (by rw [au nd];rfl)) ⟨bJ,fun t ht=>k (.ref t) _ (sS.trans (aA ht _)) ?_⟩;rw [sL nk nd];exact ⟨t,rfl,aC⟩
 replace nd:=ya.mp nd;refine aR (fun z=>by rw [tw2,af nd] at z;cases z) ?_;replace PG:=PG.ts (.of sS);replace hpr:=sS _ _ hpr;refine ⟨_,rfl,av _,fun l2 hl2=>?_⟩;have s2:=aA hl2 (.lst []);refine ⟨pr,l2,[],rs,0,0,rfl,rfl,s2 _ _ hpr,aC,by show 0+aP rs<=20000;lia,aX.ts (.of s2) rs PG.rows,PG.tim,hC,hD,by show dI rs+1<=8;lia,fun t3 q kn3 j3 zs H3 s3 h3 e3 hq fq tw gk3 fk3=>?_⟩;refine ⟨t3,_,rfl,aQ.of h3,rfl,_,_,rfl,_,_,rfl,_,_,rfl,rfl,?_⟩;have sH:=sS.trans (s2.trans s3);replace PG:=PG.ts (.of (s2.trans s3));replace hpr:=(s2.trans s3) _ _ hpr;have zl:=tw.length;have fl:=gH rs 0 [];have fqG:G q=none:=sS.free (s2.free fq);refine ⟨fun σ G'=>∃ (zs':List V) (v4 v5:Option V),σ=[some (.ref p),some (.ref pk),some (.ref pr),some (.ref q),v4,v5]/\bB G G'/\G' q=some (.lst zs')/\zs'.length<=100000/\∃ v r,zs'++[.non]=v :: r/\aM4 G' (jD ks rs) v,?_,?_⟩
 ·refine ⟨_,rfl,pr,rs,rfl,hpr,PG.rows,by (exact oqf),by show dI rs+1<=8;lia,fun q4 us H4 s4 _ h4 t4=>?_⟩;have ul:=t4.length;rw [dS] at ul;refine ⟨q4,rfl,⟨_,bI.of h4⟩,cO (K:=K) (a:=q4) (xs:=us) (fun i ys σ G'=>bB H4 G'/\(∃ v,σ=[v,some (.ref pr)])/\ys=(((eS rs).take i).map Rw.w).map V.str)
   (cE (by lia)) ⟨bB.refl _,⟨_,rfl⟩,rfl⟩ (by rintro i ys σ G' ⟨_,_,e⟩;rw [e,aa,aa];exact ir _ _) (by rintro i ys σ G' _ ⟨e,_⟩;exact bI.of (e _ _ h4)) ?_ ?_⟩
  ·rintro i v ys σ G' hv ⟨s5,⟨v',rfl⟩,rfl⟩;obtain ⟨P0,hP0,pa,rfl,hpa⟩:=jU t4 hv;obtain ⟨r,hr,ld,pl⟩:=(iA rs).at hP0;have s45:=s4.trans s5;refine ⟨_,rfl,_,rfl,pr,pa,rs,P0,r,rfl,s45 _ _ hpr,aX.ts (.of s45) rs PG.rows,s5 _ _ hpa,ld,by show P0.length+1<=2 * 8;lia,fun G6 s6=>?_⟩;refine ⟨r.p,_,_,.str r.w,rfl,rfl,aQ.of (cJ.ts (.of (s45.trans s6)) r (ld.mem PG.rows)).at,fL,s5.trans s6,⟨_,rfl⟩,?_⟩;rw [bK hr,bg,bg];rfl
  rintro ys σ G' ⟨s5,_,rfl⟩ l6 hl6;rw [ul, <- kI,ci];have s6:=aA hl6 (.lst (((eS rs).map Rw.w).map V.str));have g6:aJ G' l6 (.lst (((eS rs).map Rw.w).map V.str)) l6=some (.lst (((eS rs).map Rw.w).map V.str)):=aC;have s46:=s4.trans (s5.trans s6);generalize aJ G' l6 (.lst (((eS rs).map Rw.w).map V.str))=H6 at g6 s46 ⊢;replace hq:=s46 _ _ hq;replace tw:=tw.mono fun _ _ z=>lU.ts (.of s46) z
  replace sH:=sH.trans s46;refine ⟨l6,_,rfl,.inl (bI.of g6),rfl,eJ _,_,rfl,?_⟩;have ei:(!oM (V.str "tell") (((eS rs).map Rw.w).map V.str))= !decide (∃ q∈eS rs,q.w="tell"):=by rw [dL,aE2]
  by_cases ct:∃ q∈eS rs,q.w="tell"
  ·refine aR (fun z=>by have z:=ei.symm.trans z;rw [af ct] at z;cases z) ⟨zs,_,_,rfl,sH,hq,by lia,?_⟩
   cases hf:iW 0 [] rs with
   |nil =>
    rw [hf] at zl;rw [gr zl];exact ⟨.non,[],rfl,by rw [qJ nk nd hf ct];rfl⟩
   |cons m r =>
    rw [hf] at tw
    cases zs with
    |nil=>exact tw.elim
    |cons z zs =>
     obtain ⟨a,rfl,ha⟩:=tw.1;exact ⟨.ref a,_,rfl,by rw [nZ nk nd hf];exact ⟨a,rfl,ha⟩⟩
  ·refine bD (ei.trans (by rw [au ct];rfl)) ?_;refine ⟨_,rfl,.inl ⟨rfl,_,bI.of hq⟩,bJ,fun t7 ht7=>?_⟩;have s7:=aA ht7 (.tup [.str "silent",.int (-1)]);have g7:aJ H6 t7 (.tup [.str "silent",.int (-1)]) t7=some (.tup [.str "silent",.int (-1)]):=aC;replace hq:=s7 _ _ hq;replace tw:=tw.mono fun _ _ z=>lU.ts (.of s7) z
   replace sH:=sH.trans s7;refine ⟨q,_,_,rfl,rfl,hq,cE (by lia),zs++[.ref t7],_,_,rfl,bF sH fqG,aC,by rw [ak];show _+1<=_;lia,?_⟩;have l8:=TS.lst (ys:=zs++[.ref t7]) hq
   cases hf:iW 0 [] rs with
   |nil =>
    rw [hf] at zl;rw [gr zl] at l8 ⊢;exact ⟨.ref t7,[.non],rfl,by rw [qE nk nd hf ct];exact ⟨t7,rfl,l8 _ _ g7⟩⟩
   |cons m r =>
    rw [hf] at tw
    cases zs with
    |nil=>exact tw.elim
    |cons z zs =>
     obtain ⟨a,rfl,ha⟩:=tw.1;exact ⟨.ref a,_,rfl,by rw [nZ nk nd hf];exact ⟨a,rfl,l8 _ _ ha⟩⟩
 rintro σ G' ⟨zs',v4,v5,rfl,s4,g4,zl',v,r,ev,hv⟩;refine ⟨_,rfl,eQ,fun l5 hl5=>?_⟩;have s5:=aA hl5 (.lst [.non]);refine ⟨q,l5,_,_,rfl,rfl,s5 _ _ g4,aC,bu (cE (by show _+1<=_;lia)),fun l6 hl6=>?_⟩;have s6:=s5.trans (aA hl6 (.lst (zs'++[.non])));refine ⟨l6,_,_,v,rfl,rfl,bI.of aC,by rw [ev];exact fL,k v _ (s4.trans s6) ?_⟩
 revert hv
 cases jD ks rs with
 |none=>exact fun h=>h
 |some wn=>rintro ⟨a,e,h⟩;exact ⟨a,e,s6 _ _ h⟩
theorem bE9 {C D:Addr}(W:dU K C D) (n1:mB K C "word") (n0:mB K C "row"):gN P w K mg base "__init__" "NoProgram.__init__" aN0 1 ["self","word","row"] (pE C):=by
 refine iV ["self","word","row"] fun H Q nd hr h=>?_
 obtain ⟨a,wd,m,rfl,hx,k⟩:=h;refine ⟨_,(aE (aM3 (pv 0) (pv 1) rfl) (aF (aN6 (pv 0) (pv 2) rfl))),?_⟩;refine ⟨_,rfl,_,rfl,a,C,D,rfl,W,n1,hx,fun dx hd=>?_⟩;have ne:a≠dx:=aK hx hd;refine ⟨_,rfl,_,rfl,a,C,D,dx,_,rfl,W,n0,by rw [aH ne,aC],aC,by show 1<=100;decide,k dx hd⟩
theorem aZ0 {cN:Addr}(M_NoProgram:Mk2 P w K mg base cN (pE cN) "NoProgram") {tM:Tok}(m_MOST_KINDS:mg "MOST_KINDS"=some (.int 3 tM)) (m_len:mg "len"=none) (m_set:mg "set"=none):aV7 P w K mg base "look_at_kinds" "look_at_kinds" bO7 3 ["kinds"] (wJ cN):=by
 refine bQ3 ["kinds"] fun H Q nd hr h=>?_
 obtain ⟨p,ks,rfl,hp,kl,k1,k2⟩:=h;have hr1:eE 1 _:=hr.mono (by decide);refine ⟨_,(aE (bE (rC (aO6 tK tK aD (iK aW m_len bz (aN (pv 0))) (gT (v:= .int 3) (by rfl) m_MOST_KINDS ⟨_,rfl⟩))) (aF (lJ M_NoProgram hr (aB aG (aN lY)))) aO)
  (aF (bE (dM mU (iK (sE P w) m_len bz (aN (xD (tP P w hr1) m_set vg (aN (pv 0))))) (iK aW m_len bz (aN (pv 0)))) (aF (lJ M_NoProgram hr (aB aG (aN lY)))) aO))),?_⟩
 refine ⟨_,rfl,p,_,rfl,.inr (aQ.of hp),_,_,rfl,rfl,_,rfl,?_⟩;rw [aa]
 by_cases c1:ks.length=0
 ·refine aR (fun z=>by have:=ag z;lia) ?_;refine ⟨_,rfl,bD rfl ?_⟩;exact ⟨bJ,fun x hx=>⟨x,_,_,rfl,aC,fun dx hd=>⟨rfl,kS (bB.refl _) hx hd fun H' s' r'=>k2 _ dx H' (.inl ⟨.inl c1,rfl⟩) s' r'⟩⟩⟩
 refine bD (af (by lia)) ⟨_,_,rfl,rfl,_,rfl,?_⟩
 by_cases c2:3 < ks.length
 ·refine bD (by rw [au (by lia)];rfl) ?_;exact ⟨bJ,fun x hx=>⟨x,_,_,rfl,aC,fun dx hd=>⟨rfl,kS (bB.refl _) hx hd fun H' s' r'=>k2 _ dx H' (.inl ⟨.inr c2,rfl⟩) s' r'⟩⟩⟩
 refine aR (by rw [af (by lia)];decide) ?_;have em:ks.map V.str=(ks.map fun x=>(Sum.inr x:Key)).map kV:=by rw [ke];rfl
 refine ⟨_,rfl,p,ks.map (fun x=>(Sum.inr x:Key)),rfl,by rw [<- em];exact aQ.of hp,by rw [aa];(exact oqf),fun aS haS=>?_⟩;obtain ⟨HS,e0,sS,gS⟩:=hV haS (tL P w aS (ks.map fun x=>(Sum.inr x:Key)));rw [e0];clear e0;refine ⟨aS,_,rfl,gS,_,rfl,p,_,rfl,.inr (aQ.of (sS _ _ hp)),_,_,rfl,rfl,_,rfl,?_⟩;rw [aa];have tw2:=vC ks
 by_cases nd9:ks.Nodup
 ·refine aR (fun z=>by rw [tw2,af nd9] at z;cases z) ?_;exact k1 (by lia) (by lia) nd9 _ sS
 ·refine bD (tw2.trans (by rw [au nd9];rfl)) ?_;exact ⟨bJ,fun x hx=>⟨x,_,_,rfl,aC,fun dx hd=>⟨rfl,kS sS hx hd fun H' s' r'=>k2 _ dx H' (.inr ⟨fun z=>by lia,nd9,rfl⟩) s' r'⟩⟩⟩
theorem bC1 {cN:Addr}(M_NoProgram:Mk2 P w K mg base cN (pE cN) "NoProgram") (C_Lkk:ClY P w K mg base 3 (wJ cN) "look_at_kinds") (C_Sts:Cl P w K mg base 3 spSteps "steps_of") (C_TlF:Cl P w K mg base 4 spTelF "tells_faults") (C_RnF:Cl P w K mg base 3 spRangeF "range_faults") (C_UnF:Cl P w K mg base 4 spUnkF "unknown_faults") (m_min:mg "min"=none) (m_any:mg "any"=none):aV7 P w K mg base "look" "look" bM7 6 ["program"] (xT cN):=by
 refine bQ3 ["program","steps","faults","fault"] fun H Q nd hr h=>?_
 obtain ⟨p,ks,rs,rfl,PGG,k1,k2⟩:=h;refine ⟨_,(aE (bR (bD3 C_Lkk hr aN5 (aN (bV aI (pv 0) aD))))
  (eY 1 nd (bW C_Sts hr (aN (bV aI (pv 0) aD)))
  (eY 2 nd (aM fR (aM fR (bW C_RnF hr (aN (pv 1))) (bW C_UnF hr (aN (pv 1)))) (bW C_TlF hr (aN (pv 1))))
  (aE (bE (pM (pv 2) (fun _=>rfl)) (eY 3 nd (iK (aG0 hr) m_min og (aN (pv 2)))
  (aF (lJ M_NoProgram hr (aB (bV aI (pv 3) aD) (aN (bV aI (pv 3) aD)))))) aO)
  (aE (bE (rC (jJ (iK aI5 m_any PyProof.Rows.boot_any (aN (cQ ["step"] [none] (dW (pv 1)) (fun _ _ _ _=>(eO 0)) (fun _ _ _ _=>eK) (fun _ _ _ _=>(zU bP (bV (oR K) (bV (oR K) (pv 0) aD) aD) aG))))))) (aF (lJ M_NoProgram hr (aB aG (aN lY)))) aO)
  (aF (aU sQ))))))),?_⟩
 obtain ⟨PG,kl⟩:=PGG;obtain ⟨pk,pr,hp,hk,hpr⟩:=PG.ex;have tl:=fA rs 0;have c0:=PG.cnt;refine ⟨_,rfl,p,_,_,.ref pk,rfl,rfl,aQ.of hp,rfl,pk,ks,rfl,hk,kl,fun n1 n3 nd9 H1 s1=>?_,fun wd dx H1 hw s1 r1=>?_⟩
 rotate_left
 ·rcases hw with ⟨a,rfl⟩ | ⟨a,b,rfl⟩
  ·exact k2 _ _ dx H1 (rQ a) s1 r1
  ·exact k2 _ _ dx H1 (sL a b) s1 r1
 have nk:¬ (ks.length=0\/3 < ks.length):=by lia
 refine ⟨_,rfl,p,_,_,.ref pr,rfl,rfl,aQ.of (s1 _ _ hp),rfl,pr,rs,rfl,s1 _ _ hpr,aX.ts (.of s1) rs PG.rows,PG.cnt,fun ls zs H2 s2 _ h2 t2=>?_⟩;have SH:mJ H2 ls zs rs:=⟨h2,t2,aX.ts (.of (s1.trans s2)) rs PG.rows,PG.cnt⟩
 have zl:=t2.length;have pl:=(iQ rs).length_eq;have fl:=gH rs 0 [];simp only [List.length_append] at pl;refine ⟨_,rfl,ls,zs,rs,rfl,SH,fun r3 u3 H3 s3 _ h3 t3=>?_⟩;have l3:=t3.length;refine ⟨_,rfl,ls,zs,rs,rfl,SH.same s3,fun r4 u4 H4 s4 _ h4 t4=>?_⟩;have l4:=t4.length;refine ⟨r3,r4,_,_,rfl,rfl,s4 _ _ h3,h4,bu (cE (by lia)),fun l5 hl5=>?_⟩;have v5:=aA hl5 (.lst (u3++u4));have s5:=s4.trans v5;have h5:aJ H4 l5 (.lst (u3++u4)) l5=some (.lst (u3++u4)):=aC;have t5:=eL.append (t3.mono fun _ _ z=>jV.ts (.of s5) z) (t4.mono fun _ _ z=>jV.ts (.of v5) z);generalize aJ H4 l5 (.lst (u3++u4))=H5 at s5 h5 t5 ⊢;refine ⟨_,rfl,ls,zs,rs,rfl,(SH.same s3).same s5,PG.tim,PG.dp,fun r6 u6 H6 s6 _ h6 t6=>?_⟩;have l6:=t6.length;refine ⟨l5,r6,_,_,rfl,rfl,s6 _ _ h5,h6,bu (cE (by rw [ak];lia)),fun l7 hl7=>?_⟩;have v7:=aA hl7 (.lst (u3++u4++u6));have s7:=s3.trans (s5.trans (s6.trans v7))
 have h7:aJ H6 l7 (.lst (u3++u4++u6)) l7=some (.lst (u3++u4++u6)):=aC;have t7:=eL.append (t5.mono fun _ _ z=>jV.ts (.of (s6.trans v7)) z) (t6.mono fun _ _ z=>jV.ts (.of v7) z);have uu:(u3++u4++u6).length=(wL 0 rs++uY 0 [] rs++uZ 0 rs).length:=t7.length;clear t5 t6 t3 t4 h6 h5 h4 h3 l3 l4 l6;generalize aJ H6 l7 (.lst (u3++u4++u6))=H7 at s7 h7 t7 ⊢;generalize u3++u4++u6=us at h7 t7 uu;refine ⟨_,rfl,_,.inl ⟨_,bI.of h7,rfl⟩,?_⟩
 by_cases c7:us=[]
 rotate_left
 ·refine bD (by cases us with | nil=>exact absurd rfl c7 | cons a b=>rfl) ?_;obtain ⟨as,rfl,la,fa⟩:=aA5 t7;have ae:as≠[]:=fun z=>c7 (by rw [z];rfl)
  refine ⟨_,rfl,l7,as,_,rfl,bI.of h7,la.symm,tX rs,ae,fun i a m ha hm=>⟨_,fa i a m ha hm⟩,fun i a m ha hm least=>?_⟩;have hm':=fa i a m ha hm;obtain ⟨rr,er⟩:=wE (ap hm) least;refine ⟨_,rfl,a,_,_,.str (rH m.2),rfl,rfl,aQ.of hm',rfl,_,rfl,a,_,_,.int m.1,rfl,rfl,aQ.of hm',rfl,?_⟩;exact ⟨bJ,fun x hx=>⟨x,_,_,rfl,aC,fun dx hd=>⟨rfl,kS (s1.trans (s2.trans s7)) hx hd fun H' s' r'=>k2 _ _ dx H' (nZ nk nd9 er) s' r'⟩⟩⟩
 subst c7;have e0:=(aB4 rs).mp (gr uu.symm);refine aR (by decide) ?_;obtain ⟨h8,t8,hR8,_⟩:=SH.same s7;refine ⟨_,rfl,ls,rfl,⟨_,bI.of h8⟩,cO (K:=K) (a:=ls) (xs:=zs) (fun i ys σ G=>G=H7/\(∃ v,σ=[v])/\ys=(((cR 0 rs).take i).map fun s:Stp=>decide (s.2.1.w="tell")).map V.bl)
  (cE (by lia)) ⟨rfl,⟨_,rfl⟩,rfl⟩ (by rintro i ys σ G ⟨_,_,e⟩;rw [e,aa,aa,cv];lia) (by rintro i ys σ G _ ⟨e,_⟩;rw [e];exact bI.of h8) ?_ ?_⟩
 ·rintro i v ys σ G hv ⟨rfl,⟨v',rfl⟩,rfl⟩;obtain ⟨s,hs,q,rfl,hq⟩:=jU t8 hv;have hrs:=fM rs 0 hR8 s (ap hs);refine ⟨_,rfl,q,_,_,.ref s.2.1.p,rfl,rfl,aQ.of hq,rfl,s.2.1.p,_,_,.str s.2.1.w,rfl,rfl,aQ.of hrs.at,fL,rfl,rfl,⟨_,rfl⟩,?_⟩;rw [bK hs,bg,bg];rw [show decide (V.str s.2.1.w=V.str "tell")=decide (s.2.1.w="tell") from by simp];rfl
 rintro ys σ G ⟨rfl,_,rfl⟩ l9 hl9;rw [zl,ci];have s9:=s1.trans (s2.trans (s7.trans (aA hl9 (.lst (((cR 0 rs).map fun s:Stp=>decide (s.2.1.w="tell")).map V.bl)))));refine ⟨l9,_,rfl,bI.of aC,_,rfl,?_⟩;have ea:=aE7 rs
 by_cases ct:∃ q∈eS rs,q.w="tell"
 ·refine aR (by rw [ea.mpr ct];decide) ?_;exact k1 (qJ nk nd9 e0 ct) _ s9
 ·refine bD (by rw [my.mpr fun z=>ct (ea.mp z)];rfl) ?_;exact ⟨bJ,fun x hx=>⟨x,_,_,rfl,aC,fun dx hd=>⟨rfl,kS s9 hx hd fun H' s' r'=>k2 _ _ dx H' (qE nk nd9 e0 ct) s' r'⟩⟩⟩
theorem bC8 {cN D c1 c2 c3 c4 c5 c6:Addr}(m_ThrowError:mg "ThrowError"=some (.ref D)) (m_NoProgram:mg "NoProgram"=some (.ref cN)) (m_NoFit:mg "NoFit"=some (.ref c1)) (m_NoPaper:mg "NoPaper"=some (.ref c2)) (m_NoRow:mg "NoRow"=some (.ref c3)) (m_NoRows:mg "NoRows"=some (.ref c4)) (m_NoText:mg "NoText"=some (.ref c5)) (m_TooMany:mg "TooMany"=some (.ref c6)) (U:XUp K cN) (XF:oH K cN [c1,c2,c3,c4,c5,c6] D) (n0:mB K cN "row") (n1:mB K cN "word") (C_Lok:ClY P w K mg base 6 (xT cN) "look") (m_isinstance:mg "isinstance"=none) (m_ValueError:mg "ValueError"=none) (m_bool:mg "bool"=none) (m_int:mg "int"=none):gN P w K mg base "_law_told" "_law_told" bN0 7 ["_law_program_here"] spToldP:=by
 refine bW6 ["_law_program_here","_law_found","e","_law_good"] fun H Q nd hr h=>?_
 obtain ⟨p,ks,rs,rfl,PGG,k⟩:=h;refine ⟨_,(aA8 (PS.p0 (kZ 1 nd aG))
  (aA8 (aO5 (i:=2) rfl rfl rfl nd rfl rfl rfl (by rfl) m_NoProgram U
   (fun Ex E1 ps=>aF (bE (dM bF9 (bD3 C_Lok hr ps (aN (pv 0))) sQ) (aF (kZ 1 nd aK3)) aO))
   (fun x=>(eY 3 nd (xL (iK (bN9 K) m_isinstance gy (aB (pv 2) (aN (gT (v:= .ref D) (by rfl) m_ThrowError rfl)))) (nP (iK (bN9 K) m_isinstance gy (aB (pv 2) (aN (uU (v:= .ty "ValueError") (by rfl) m_ValueError aU6 rfl))))))
  (aF (bE (PW.pt (eR (jJ (pv 3)) (eU (rC (jJ (iK (bV6 K) m_isinstance gy (aB (pv 2) (aN (aL (aB (gT (v:= .ref c1) (by rfl) m_NoFit rfl) (aB (gT (v:= .ref c2) (by rfl) m_NoPaper rfl) (aB (gT (v:= .ref c3) (by rfl) m_NoRow rfl) (aB (gT (v:= .ref c4) (by rfl) m_NoRows rfl) (aB (gT (v:= .ref c5) (by rfl) m_NoText rfl) (aN (gT (v:= .ref c6) (by rfl) m_TooMany rfl)))))))))))))))) (eY 1 nd (aL (aB (mR K (pv 2)) (aN (mR K (pv 2)))))
  (aF (bE (PW.pt (nI (rC (jJ (iK (aB0 K) m_isinstance gy (aB (mR K (pv 2)) (aN (uU (v:= .ty "int") (by rfl) m_int jb rfl)))))) (mK (jJ (iK (aB0 K) m_isinstance gy (aB (mR K (pv 2)) (aN (uU (v:= .ty "bool") (by rfl) m_bool PyProof.Rows.boot_bool rfl)))))))) (aF (kZ 1 nd aG)) aO))) aO)))))
  (oN.p0 (aF (aU (pv 1)))))),?_⟩
 refine ⟨_,rfl,p,ks,rs,rfl,PGG,fun dn H1 s1=>?_,fun wd m dx H1 ds s1 hd=>?_⟩
 ·refine ⟨_,_,rfl,rfl,_,rfl,bD (by decide) ?_⟩;refine ⟨_,rfl,k .non H1 s1 ?_⟩;rw [dn];rfl
 ·refine ⟨cN,D,dx,rfl,rfl,XF.over,.inl rfl,fun σ x hl2 hx=>?_⟩;obtain ⟨v0,v1,v2,v3,rfl⟩:=bY3 hl2;have s2:=s1.trans (aA hx (XD x cN dx));have x2:aJ H1 x (XD x cN dx) x=some (XD x cN dx):=aC;have d2:=(aA hx (XD x cN dx)) _ _ hd;generalize aJ H1 x (XD x cN dx)=H2 at s2 x2 d2 ⊢;have at2:XAt H2 x cN:= .inr ⟨dx,_,x2,d2⟩;have fr:List.lookup ("row": Str) ([("word",V.str wd),("row",V.int m)]:List (Str×V))=some (V.int m):=rfl;have fw:List.lookup ("word": Str) ([("word",V.str wd),("row",V.int m)]:List (Str×V))=some (V.str wd):=rfl;refine ⟨_,rfl,x,.ref D,cN,D,true,rfl,⟨D,.inl ⟨rfl,XF.up⟩⟩,at2,XF.over,XF.is,?_⟩;refine ⟨_,rfl,bD rfl ?_⟩;refine ⟨_,rfl,x,.ty "ValueError",cN,D,true,rfl,⟨D,.inr ⟨_,rfl,XF.ve⟩⟩,at2,XF.over,XF.is,?_⟩;refine ⟨_,rfl,_,rfl,bD rfl ?_⟩;refine ⟨_,rfl,by show 6<=sizeLine;decide,fun t ht=>?_⟩;have u3:=aA ht (.tup [.ref c1,.ref c2,.ref c3,.ref c4,.ref c5,.ref c6]);have h3:aJ H2 t (.tup [.ref c1,.ref c2,.ref c3,.ref c4,.ref c5,.ref c6]) t=some (.tup [.ref c1,.ref c2,.ref c3,.ref c4,.ref c5,.ref c6]):=aC
  replace s2:=s2.trans u3;replace x2:=u3 _ _ x2;replace d2:=u3 _ _ d2;generalize aJ H2 t (.tup [.ref c1,.ref c2,.ref c3,.ref c4,.ref c5,.ref c6])=H3 at s2 h3 x2 d2 ⊢;have at3:XAt H3 x cN:= .inr ⟨dx,_,x2,d2⟩;refine ⟨x,t,cN,D,[c1,c2,c3,c4,c5,c6],rfl,aQ.of h3,at3,XF.over,XF.is,fun c hc=>XF.kit hc,_,rfl,bD rfl ?_⟩;refine ⟨_,rfl,x,cN,D,dx,_,.str wd,rfl,x2,d2,XF.over,n1,fw,_,rfl,x,cN,D,dx,_,.int m,rfl,x2,d2,XF.over,n0,fr,bJ,fun q hq=>?_⟩;have u4:=aA hq (.tup [.str wd,.int m]);have g4:aJ H3 q (.tup [.str wd,.int m]) q=some (.tup [.str wd,.int m]):=aC;replace s2:=s2.trans u4;replace x2:=u4 _ _ x2;replace d2:=u4 _ _ d2;generalize aJ H3 q (.tup [.str wd,.int m])=H4 at s2 g4 x2 d2 ⊢;refine ⟨_,rfl,x,cN,D,dx,_,.int m,rfl,x2,d2,XF.over,n0,fr,_,"int",_,true,rfl,.int _,rfl,_,rfl,aR (by decide) ?_⟩;refine ⟨_,rfl,x,cN,D,dx,_,.int m,rfl,x2,d2,XF.over,n0,fr,_,"bool",_,false,rfl,.int _,rfl,_,rfl,aR (by decide) ?_⟩
  refine ⟨_,rfl,k (.ref q) H4 s2 ?_⟩;rw [ds];exact ⟨q,rfl,g4⟩
theorem bH2 {cN:Addr}(C_Deal:Cl P w K mg base 1 (aK0 K) "_law_deal") (C_Prg:Cl P w K mg base 17 spPrg "_law_program") (C_Nms:Cl P w K mg base 2 spNames "_law_names") (C_RAt:Cl P w K mg base 9 (jL 8) "_law_row_at") (C_Spl:Cl P w K mg base 104 spSpoilt "_law_spoilt") (C_Pth:Cl P w K mg base 9 (jO 8) "_law_paths") (C_Draw:Cl P w K mg base 1 spDraw "_law_draw") (C_TwR:Cl P w K mg base 12 spTwoR "_law_two_reasons") (C_Tld:Cl P w K mg base 7 spToldP "_law_told") (C_Due:Cl P w K mg base 113 spDue "_law_due") (C_Lok:ClY P w K mg base 6 (xT cN) "look") (m_range:mg "range"=none) (m_len:mg "len"=none):gN P w K mg base "law" "law" aJ7 114 ["_law_script"] (zW K):=by
 refine iV ["_law_script","_law_deal_here","_law_program_here","_law_names_here","_law_some","_law_k","_law_other","_law_turn"] fun H Q nd hr h=>?_
 obtain ⟨a,ns,rfl,hS,hlen,k⟩:=h;refine ⟨_,(@aE _ _ _ _ _ (kZ 1 nd (bW C_Deal hr (aB (pv 0) (aN aD))))
  (@aE _ _ _ _ _ (kZ 2 nd (bW C_Prg hr (aB (pv 1) (aN aD))))
  (@aE _ _ _ _ _ (kZ 3 nd (aM fR (bW C_Nms hr (aB (pv 1) (aN aD))) (bS (aN aG))))
  (@aE _ _ _ _ _ (oX ["_law_path","_law_program_here"] [none,some 2] (i:=4) nd rfl (ii rfl) (dW (bW C_Pth hr (aN (bV aI (pv 2) aD)))) (fun _ _ _ _=>(eO 0)) (fun _ _ _ _=>eK) (fun _ _ _ _=>(bW C_RAt hr (aB (bV (oR K) (pv 1) aD) (aN (pv 0))))))
  (@aE _ _ _ _ _ (bR (dG aj fu fv gE (pv 3) (aN (cQ ["_law_row"] [none] (dW (pv 4)) (fun _ _ _ _=>(eO 0)) (fun _ _ _ _=>(mE (dM (inK K) (bV (oR K) (pv 0) aD) (@aL _ _ _ _ _ (@aB _ _ _ _ _ aG (@aB _ _ _ _ _ aG (@aB _ _ _ _ _ aG (@aB _ _ _ _ _ aG (@aB _ _ _ _ _ aG cF rfl) rfl) rfl) rfl) rfl))))) (fun _ _ _ _=>(bV (oR K) (pv 0) aD))))))
  (@aE _ _ _ _ _ (pfr (eZ (by rfl) m_range (aN (aM bT aD (iK aW m_len bz (aN (bH tU (pv 0) bQ (bO aD))))))) (eO 5 nd)
  (eY 6 nd (bW C_Spl hr (aB (pv 1) (aB (pv 2) (aN (pv 3)))))
  (aE (pfr (eZ (by rfl) m_range (aN (bW C_Draw hr (aB (pv 1) (aN aD))))) (eO 7 nd)
  (aF (kZ 6 nd (bW C_Spl hr (aB (pv 1) (aB (pv 6) (aN (pv 3))))))))
  (aE (fK (bE (dM bP (bW C_Draw hr (aB (pv 1) (aN aD))) aD) (aF (kZ 6 nd (bW C_TwR hr (aB (pv 1) (aB (bV cY (bS (aB (pv 2) (aN (pv 6)))) (bW C_Draw hr (aB (pv 1) (aN aD)))) (aN (pv 3))))))) aO))
  (aF (bE (dY (PW.pt (nI (dM (aZ5 hr) (bW C_Tld hr (aN (pv 6))) (bW C_Due hr (aN (pv 6)))) (mK (dM aU1 (bD3 C_Lok hr aB6 (aN (pv 2))) sQ))))) aB8 aO))))))
  (@aF _ _ _ (aU sQ)))))))),?_⟩
 refine ⟨_,rfl,a,ns,0,rfl,hS,hlen,by decide,by decide,fun d l H1 nD nL D1 s1=>?_⟩;have sOut:∀ {G:Hp},dZ d l H1 G->bB H G:=fun o b u e=>o b u (s1 b u e) (aK e nD) (aK e nL)
 refine ⟨_,rfl,d,l,9,rfl,D1,fun p ks rs k2 tells H2 D2 o2 P2 c2 _ dp2=>?_⟩;refine ⟨_,rfl,d,l,2,rfl,D2,by decide,by decide,fun rn xn H3 D3 o3 fn hn ln _=>⟨eQ,fun l4 hl4=>?_⟩⟩;have u4:=aA hl4 (.lst [.str "zzzzzzzz"]);have g4:aJ H3 l4 (.lst [.str "zzzzzzzz"]) l4=some (.lst ((["zzzzzzzz"]:List Str).map V.str)):=aC;replace hn:=u4 _ _ hn;have P4:=(P2.ts (TS.out D2 o3)).ts (.of u4);have o4:=o2.trans (o3.trans (.of u4));have D4:=D3.same u4;clear D3 u4;generalize aJ H3 l4 (.lst [.str "zzzzzzzz"])=H4 at g4 hn P4 o4 D4 ⊢;refine ⟨rn,l4,_,_,rfl,rfl,hn,g4,bu (cE (by rw [aa];show xn.length+1<=_;lia)),fun nl hnl=>?_⟩;rw [<- bg];have nln:=(bZ D4 hnl).2;have fN:H1 nl=none:=lL D4 o4 hnl;have u5:=aA hnl (.lst ((xn++[("zzzzzzzz": Str)]).map V.str));have g5:aJ H4 nl (.lst ((xn++[("zzzzzzzz": Str)]).map V.str)) nl=some (.lst ((xn++[("zzzzzzzz": Str)]).map V.str)):=aC;have P5:=P4.ts (.of u5)
 have o5:=o4.trans (.of u5);have D5:=D4.same u5;clear D4 o4 P4 g4 hn;generalize aJ H4 nl (.lst ((xn++[("zzzzzzzz": Str)]).map V.str))=H5 at g5 P5 o5 D5 ⊢;have PG5:tT H5 p ks rs 3490 3:=⟨P5.ex,P5.rows,mZ rs P5.tk,c2,dp2⟩
 obtain ⟨pk,pr,hp,hk,hpr⟩:=P5.ex;have cl:=eI rs;refine ⟨_,rfl,p,_,_,.ref pr,rfl,rfl,aQ.of hp,rfl,pr,rs,rfl,hpr,P5.rows,by (exact oqf),by show dI rs+1<=8;lia,fun q zs H6 s6 fq hq tw=>?_⟩;have zl:=tw.length;rw [dS] at zl;refine ⟨q,rfl,⟨_,bI.of hq⟩,cO (K:=K) (a:=q) (xs:=zs) (fun i ys σ G=>bB H6 G/\(∃ v,σ=[v,some (.ref p)])/\∃ rws:List Rw,ys=bG rws/\rws.length=i/\aX G rws)
  (cE (by lia)) ⟨bB.refl _,⟨_,rfl⟩,[],rfl,rfl,trivial⟩ (by rintro i ys σ G ⟨_,_,rws,e,e2,_⟩;rw [e,bU];lia) (by rintro i ys σ G _ ⟨e,_⟩;exact bI.of (e _ _ hq)) ?_ ?_⟩
 ·rintro i v ys σ G hv ⟨s7,⟨v',rfl⟩,rws,rfl,rl,hR⟩;obtain ⟨P0,hP0,pa,rfl,hpa⟩:=jU tw hv;obtain ⟨r,hr,ld,pl⟩:=(iA rs).at hP0;have s67:=s6.trans s7;refine ⟨_,rfl,p,_,_,.ref pr,rfl,rfl,aQ.of (s67 _ _ hp),rfl,_,rfl,pr,pa,rs,P0,r,rfl,s67 _ _ hpr,aX.ts (.of s67) rs P5.rows,s7 _ _ hpa,ld,by show P0.length+1<=2 * 8;lia,fun G8 s8=>⟨s7.trans s8,⟨_,rfl⟩,rws++[r],(hI rws [r]).symm,by rw [ak,rl];rfl,(aX.ts (.of s8) rws hR).app ⟨cJ.ts (.of (s67.trans s8)) r (ld.mem P5.rows),trivial⟩⟩⟩
 rintro ys σ G ⟨s7,_,rws,rfl,rl,hR⟩ ls hls;have u8:=aA hls (.lst (bG rws));have g8:aJ G ls (.lst (bG rws)) ls=some (.lst (bG rws)):=aC;have hR8:=aX.ts (.of u8) rws hR;have s58:=s6.trans (s7.trans u8);replace g5:=s58 _ _ g5;have P8:=P5.ts (.of s58);have PG8:=PG5.ts (.of s58);have o8:=o5.trans (.of s58);have D8:=D5.same s58;clear u8 hR s7 s6 tw hq;generalize aJ G ls (.lst (bG rws))=H8 at g8 hR8 g5 P8 PG8 o8 D8 ⊢;refine ⟨_,rfl,.inl ⟨rfl,_,bI.of g5⟩,_,rfl,ls,rfl,⟨_,bI.of g8⟩,cO (K:=K) (a:=ls) (xs:=bG rws) (fun i ys σ G=>bB H8 G/\(∃ v,σ=[v])/\∃ ws:List Str,ys=ws.map V.str/\ws.length<=i)
  (cE (by rw [bU];lia)) ⟨bB.refl _,⟨_,rfl⟩,[],rfl,ai _⟩ (by rintro i ys σ G ⟨_,_,ws,e,e2⟩;rw [e,aa];assumption) (by rintro i ys σ G _ ⟨e,_⟩;exact bI.of (e _ _ g8)) ?_ ?_⟩
 ·rintro i v ys σ G hv ⟨s9,⟨v',rfl⟩,ws,rfl,wl⟩;obtain ⟨r,rfl,hr⟩:=iM hv;have hr9:=cJ.ts (.of s9) r (hR8.mem r (ap hr));refine ⟨_,rfl,r.p,_,_,.str r.w,rfl,rfl,aQ.of hr9.at,fL,by show 5<=sizeLine;decide,fun t9 ht9=>?_⟩;obtain ⟨G9,e0,u9,gt9⟩:=hV ht9 (.tup [.str "ladder",.str "flat",.str "choose",.str "first",.str "let"]);rw [e0];clear e0;refine ⟨t9,[.str "ladder",.str "flat",.str "choose",.str "first",.str "let"],rfl,.inr (aQ.of gt9),rfl,by decide,_,rfl,?_⟩
  by_cases c:r.w∈oO
  ·refine bD ((aA9 r.w).trans (af c)) ?_;have x1:∃ x,oK (.str r.w :: r.rest) 1=some (.str x):=by
    cases r with
    |thr p w x us am=>exact ⟨x,at1⟩
    |lt p x t=>exact ⟨x,rfl⟩
    |tell p t=>exact absurd c (show ¬ (("tell": Str)∈oO) by decide +kernel)
    |when p pa pb t a b=>exact absurd c (show ¬ (("when": Str)∈oO) by decide +kernel)
    |times p pb n b=>exact absurd c (show ¬ (("times": Str)∈oO) by decide +kernel)
   obtain ⟨x,hx⟩:=x1;exact ⟨_,rfl,r.p,_,_,.str x,rfl,rfl,aQ.of (u9 _ _ hr9.at),hx,s9.trans u9,⟨_,rfl⟩,ws++[x],by rw [bg];rfl,by rw [ak];show ws.length+1<=_;lia⟩
  ·exact aR (fun z=>c (ag ((aA9 r.w).symm.trans z))) ⟨s9.trans u9,⟨_,rfl⟩,ws,rfl,by lia⟩
 rintro ys σ G ⟨s9,_,ws,rfl,wl⟩ lx hlx;rw [bU] at wl;have u9:=aA hlx (.lst (ws.map V.str));have g9:aJ G lx (.lst (ws.map V.str)) lx=some (.lst (ws.map V.str)):=aC;have s89:=s9.trans u9;replace g5:=s89 _ _ g5;have P9:=P8.ts (.of s89);have PG9:=PG8.ts (.of s89);have o9:=o8.trans (.of s89);have D9:=D8.same s89;clear u9 s9 hR8 g8;generalize aJ G lx (.lst (ws.map V.str))=H9 at g9 g5 P9 PG9 o9 D9 ⊢;refine ⟨nl,lx,_,_,rfl,rfl,g5,g9,bu (cE (by simp only [List.length_map,List.length_append,List.length_cons,List.length_nil];lia)),?_⟩;have lA:=TS.lst (ys:=(xn++[("zzzzzzzz": Str)]).map V.str++ws.map V.str) g5;have NA:NmL (aJ H9 nl (.lst ((xn++[("zzzzzzzz": Str)]).map V.str++ws.map V.str))) l nl (xn++[("zzzzzzzz": Str)]++ws):=⟨by rw [aC, <- bg],nln,by simp only [List.length_append,List.length_cons,List.length_nil];lia,by simp only [List.length_append,List.length_cons,List.length_nil];lia⟩
 have PA:=P9.ts lA;have PGA:=PG9.ts lA;have DA:=pX (ys:=(xn++[("zzzzzzzz": Str)]).map V.str++ws.map V.str) D9 g5 nln;have oA:dZ d l H1 (aJ H9 nl (.lst ((xn++[("zzzzzzzz": Str)]).map V.str++ws.map V.str))):=uN o9 fN;clear lA g5 g9 D9 o9 P9 PG9;generalize aJ H9 nl (.lst ((xn++[("zzzzzzzz": Str)]).map V.str++ws.map V.str))=HA at NA PA PGA DA oA ⊢;generalize xn++[("zzzzzzzz": Str)]++ws=xs at NA;refine ⟨_,rfl,6,rfl,a,_,rfl,aS8 hS (sOut oA),fun lc hlc=>?_⟩;have uc:=aA hlc (.lst (fE (ns.map V.int) none (some 6)));have cc:=gK (ns.map V.int) none (some 6);rw [aa] at cc;refine ⟨lc,_,rfl,.inl (bI.of aC),_,_,rfl,rfl,?_⟩;replace NA:=NA.same uc;replace PA:=PA.ts (.of uc);replace PGA:=PGA.ts (.of uc);replace DA:=DA.same uc;replace oA:=oA.trans (.of uc);clear uc;generalize hcz:fE (ns.map V.int) none (some 6)=cz at *;generalize aJ HA lc (.lst cz)=HB at NA PA PGA DA oA ⊢;refine ⟨3+(cz.length:Int),rfl,by lia,by lia,mF (n:=(3+(cz.length:Int)).toNat) (fun i σ G=>∃ (v5 v6 v7:Option V),σ=[some (.ref a),some (.ref d),some (.ref p),some (.ref nl),some (.ref ls),v5,v6,v7]/\cS G d l/\NmL G l nl xs/\aP1 G p ks rs k2 tells/\tT G p ks rs 3490 3)
  ⟨_,_,_,rfl,DA,NA,PA,PGA⟩ ?_ ?_⟩
 ·clear NA PA PGA DA oA;rintro D' i σ G hi ⟨v5,v6,v7,rfl,D,N,P,PG⟩;have k3:=P.k3;have k1':=P.k1;have t1':=P.t1;refine ⟨_,rfl,_,rfl,_,rfl,d,l,nl,p,xs,ks,rs,3490,3,rfl,D,N,PG,by (exact oqf),by decide,by decide,by decide,fun p1 ks1 rs1 G1 D1 o1 Q1 kl1=>?_⟩;refine ⟨_,rfl,d,l,3,rfl,D1,by decide,by decide,fun x G2 x0 x1 D2 o2=>?_⟩;refine ⟨x,rfl,by (exact oqb),by lia,mF (n:=x.toNat) (fun j σ G'=>∃ (p':Addr) (ks':List Str) (rs':List Rw) (v7:Option V),σ=[some (.ref a),some (.ref d),some (.ref p),some (.ref nl),some (.ref ls),some (.int (0+(i:Int))),some (.ref p'),v7]/\cS G' d l/\dZ d l G G'/\tT G' p' ks' rs' 3490 3/\ks'.length<=8+5 * j)
   ⟨p1,ks1,rs1,_,rfl,D2,o1.trans o2,Q1.ts (TS.out D1 o2),by lia⟩ ?_ ?_⟩
  ·rintro D'' j σ G' hj ⟨p',ks',rs',v7,rfl,D3,o3,Q3,kl3⟩;exact ⟨_,rfl,_,rfl,_,rfl,d,l,nl,p',xs,ks',rs',3490,3,rfl,D3,N.out D o3,Q3,by lia,by decide,by decide,by decide,fun p4 ks4 rs4 G4 D4 o4 Q4 kl4=>⟨p4,ks4,rs4,_,rfl,D4,o3.trans o4,Q4,by lia⟩⟩
  rintro σ G3 ⟨p',ks',rs',v7,rfl,D3,o3,Q3,kl3⟩;refine ⟨fun σ G'=>∃ (p':Addr) (ks':List Str) (rs':List Rw),σ=[some (.ref a),some (.ref d),some (.ref p),some (.ref nl),some (.ref ls),some (.int (0+(i:Int))),some (.ref p'),v7]/\cS G' d l/\dZ d l G G'/\PgG G' p' ks' rs',?_,?_⟩
  ·refine ⟨_,rfl,d,l,3,rfl,D3,by decide,by decide,fun y G4 y0 y1 D4 o4=>⟨rfl,_,rfl,?_⟩⟩;have Q4:=Q3.ts (TS.out D3 o4);have o34:=o3.trans o4;have PG4:=PG.ts (TS.out D o34)
   by_cases cy:y=0
   ·refine bD (af (by rw [cy])) ?_;refine ⟨_,rfl,_,rfl,_,rfl,bJ,fun l5 hl5=>?_⟩;have n5:=(bZ D4 hl5).2;have u5:=aA hl5 (.lst [.ref p,.ref p']);have g5:aJ G4 l5 (.lst [.ref p,.ref p']) l5=some (.lst [.ref p,.ref p']):=aC;have D5:=D4.same u5;have o5:=o34.trans (.of u5);replace PG4:=PG4.ts (.of u5);replace Q4:=Q4.ts (.of u5);generalize aJ G4 l5 (.lst [.ref p,.ref p'])=G5 at g5 D5 o5 PG4 Q4 ⊢;refine ⟨_,rfl,d,l,2,rfl,D5,by decide,by decide,fun z G6 z0 z1 D6 o6=>?_⟩;have g6:=aV D5 g5 n5 o6;have t6:=TS.out D5 o6;have o56:=o5.trans o6;have N6:=N.out D o56;obtain ⟨p2,ks2,rs2,hv,Q6,kl6⟩:∃ (p2:Addr) (ks2:List Str) (rs2:List Rw),oK [V.ref p,V.ref p'] z=some (.ref p2)/\tT G6 p2 ks2 rs2 3490 3/\ks2.length<=50:=by
     have:z=0\/z=1:=by lia
     rcases this with rfl | rfl
     ·exact ⟨p,ks,rs,rfl,PG4.ts t6,by (exact oqf)⟩
     ·exact ⟨p',ks',rs',rfl,Q4.ts t6,by lia⟩
    refine ⟨l5,_,_,.ref p2,rfl,rfl,bI.of g6,hv,_,rfl,d,l,nl,p2,xs,ks2,rs2,3490,3,rfl,D6,N6,Q6,kl6,by decide,by decide,fun p7 ks7 rs7 G7 D7 o7 Q7 kl7=>?_⟩;exact ⟨p7,ks7,rs7,rfl,D7,o56.trans o7,Q7.mono (by decide) (by decide),by lia⟩
   ·exact aR (fun z=>cy (by have z:=ag z;injection z)) ⟨p',ks',rs',rfl,D4,o34,Q4.mono (by decide) (by decide),by lia⟩
  clear Q3 kl3 D3 o3;rintro σ G4 ⟨p',ks',rs',rfl,D4,o4,Q4⟩;have P4:=P.ts (TS.out D o4);have PG4:=PG.ts (TS.out D o4);refine ⟨fun b G'=>b=false/\bB G4 G',?_,?_⟩
  ·refine ⟨_,rfl,p',ks',rs',rfl,Q4,fun va G5 s5 da=>?_⟩;refine ⟨_,rfl,p',ks',rs',rfl,⟨Q4.1.ts (.of s5),Q4.2⟩,fun vb G6 s6 db=>?_⟩;have nk:¬ (ks.length=0\/3 < ks.length):=by lia
   have hgood:jD ks rs=none:=qJ nk P.nd (kR rs 0 [] [] k2 (fun _=>Iff.rfl) P.sc P.tk).1 (lC (by rw [P.tl];exact t1'))
   cases hd:jD ks' rs' with
   |none =>
    rw [hd] at da db;have da:va= .non:=da;have db:vb= .non:=db;subst da db;refine ⟨.none,.none,rfl,rfl,by decide +kernel,by decide +kernel,by decide +kernel,_,rfl,?_⟩;refine aR (by decide +kernel) ?_;refine ⟨_,rfl,p,ks,rs,rfl,⟨(PG4.ts (.of (s5.trans s6))).mono (by decide) (by decide),by (exact oqf)⟩,fun _ G7 s7=>⟨_,_,rfl,rfl,_,rfl,by decide,s5.trans (s6.trans s7)⟩,fun w9 n9 dx G7 e9=>by rw [hgood] at e9;cases e9⟩
   |some wn =>
    obtain ⟨w,n⟩:=wn;rw [hd] at da db;obtain ⟨a1,rfl,ga⟩:=da;obtain ⟨a2,rfl,gb⟩:=db;obtain ⟨e1,e2,e3⟩:=aD1 (aM9 hd) n;refine ⟨.tuple [.str w,.int n],.tuple [.str w,.int n],⟨a1,_,rfl,aQ.of (s6 _ _ ga),_,_,rfl,rfl,_,_,rfl,rfl,rfl⟩,⟨a2,_,rfl,aQ.of gb,_,_,rfl,rfl,_,_,rfl,rfl,rfl⟩,e1,e1,e2,_,rfl,?_⟩;rw [e3];refine aR (by simp) ?_;refine ⟨_,rfl,p,ks,rs,rfl,⟨(PG4.ts (.of (s5.trans s6))).mono (by decide) (by decide),by (exact oqf)⟩,fun _ G7 s7=>⟨_,_,rfl,rfl,_,rfl,by decide,s5.trans (s6.trans s7)⟩,fun w9 n9 dx G7 e9=>by rw [hgood] at e9;cases e9⟩
  rintro b G5 ⟨rfl,s5⟩;exact aR (by simp) ⟨_,_,_,rfl,D4.same s5,(N.out D o4).same s5,P4.ts (.of s5),PG4.ts (.of s5)⟩
 ·rintro σ G _;exact k G
end
theorem all_mk {l:W.OpenLaw}{w:World}{K:W.Frag}{h:Heap}{mg:Str->Option Value}{fa:Addr}(X:K.In h) (G:h.Ns mainGlobals mg) (hfa:mg "law"=some (.ref fa))
  {xcT:Addr}{odT:Option Addr}{itsT:Array Value}{nT:Nat}{slT:Array (Option Value)}{tM:Tok}{xcD xND xc1 xN1:Addr}{xc2 xc3 xc4 xc5 xc6 xc7:Addr}{oc_2 oc_3 oc_4 oc_5 oc_6 oc_7:Value}{oo_2 oo_3 oo_4 oo_5 oo_6 oo_7:Option Addr}{cd_2 cd_3 cd_4 cd_5 cd_6 cd_7:ClassData}{ol_2 ol_3 ol_4 ol_5 ol_6 ol_7:Array (Option Value)}{nmD qnD nm1 qn1:Str}{bsD subD bs1 sub1:List Value}{snD sn1:List Str}{abD ab1:Bool}{colD col1:Option Bool}{ddD dd1:Option Addr}{kaD kbD kcD kdD keD ka1 kb1 kc1 kd1 ke1:Option Value}{oeD oe1:Option Addr}{ooD oo1:Value}{esD es1:Array DictEntry}{enD en1:Nat}{xlD xl1:Array (Option Value)}{iI:Addr}{ioI iaI:Option Addr}{isI:Array (Option Value)}{ikI idI ipI icI itI:Value}
  (t1:TopAt K "parts_of" bS8)
  (t2:TopAt K "names_in" bU6)
  (t3:TopAt K "sets_name" bM9)
  (t4:TopAt K "names_asked" bR7)
  (t5:TopAt K "as_steps" bN2)
  (t6:TopAt K "inner_steps" bT2)
  (t7:TopAt K "steps_of" bM1)
  (t8:TopAt K "begins_rows" bR3)
  (t9:TopAt K "first_is_amiss" bP8)
  (t10:TopAt K "range_is_amiss" bL7)
  (t11:TopAt K "range_faults" bK2)
  (t12:TopAt K "in_both" bP6)
  (t13:TopAt K "unknown_faults" bR5)
  (t14:TopAt K "tells_faults" bK6)
  (t15:TopAt K "look_at_kinds" bO7)
  (t16:TopAt K "look" bM7)
  (t17:TopAt K "_law_deal" aG6)
  (t18:TopAt K "_law_draw" aK2)
  (t19:TopAt K "_law_names" bK8)
  (t20:TopAt K "_law_sum" bO4)
  (t21:TopAt K "_law_steep" bS6)
  (t22:TopAt K "_law_throw" bN6)
  (t23:TopAt K "_law_term" bT1)
  (t24:TopAt K "_law_setting" bT3)
  (t25:TopAt K "_law_when" bM5)
  (t26:TopAt K "_law_block" bT6)
  (t27:TopAt K "_law_program" bO9)
  (t28:TopAt K "_law_with_kinds" bS3)
  (t29:TopAt K "_law_sum_by" bP9)
  (t30:TopAt K "_law_row_by" bM3)
  (t31:TopAt K "_law_other_kinds" bK9)
  (t32:TopAt K "_law_paths" bR4)
  (t33:TopAt K "_law_row_at" bS5)
  (t34:TopAt K "_law_put" bL1)
  (t35:TopAt K "_law_other_term" bM2)
  (t36:TopAt K "_law_other_throw" bM0)
  (t37:TopAt K "_law_otherwise" bL5)
  (t38:TopAt K "_law_spoilt" bU4)
  (t39:TopAt K "_law_two_reasons" bS2)
  (t40:TopAt K "_law_names_in" bN5)
  (t41:TopAt K "_law_tells" bR0)
  (t42:TopAt K "_law_row_faults" bM6)
  (t43:TopAt K "_law_faults" bS1)
  (t44:TopAt K "_law_due" bO6)
  (t45:TopAt K "_law_told" bN0)
  (t46:TopAt K "law" aJ7)
  (z_reversed:W.nsIn K mainGlobals "reversed"=some none)
  (z_all:W.nsIn K mainGlobals "all"=some none)
  (z_dict:W.nsIn K mainGlobals "dict"=some none)
  (z_len:W.nsIn K mainGlobals "len"=some none)
  (z_set:W.nsIn K mainGlobals "set"=some none)
  (z_min:W.nsIn K mainGlobals "min"=some none)
  (z_any:W.nsIn K mainGlobals "any"=some none)
  (z_max:W.nsIn K mainGlobals "max"=some none)
  (z_list:W.nsIn K mainGlobals "list"=some none)
  (z_range:W.nsIn K mainGlobals "range"=some none)
  (z_tuple:W.nsIn K mainGlobals "tuple"=some none)
  (z_int:W.nsIn K mainGlobals "int"=some none)
  (z_enumerate:W.nsIn K mainGlobals "enumerate"=some none)
  (z_sum:W.nsIn K mainGlobals "sum"=some none)
  (z_isinstance:W.nsIn K mainGlobals "isinstance"=some none)
  (z_ValueError:W.nsIn K mainGlobals "ValueError"=some none)
  (z_bool:W.nsIn K mainGlobals "bool"=some none)
  (qT:W.nsIn K mainGlobals "THROWS"=some (some (.ref xcT)))
  (uT:K.lookup xcT=some ⟨.type "tuple",odT,.seq itsT nT,slT⟩)
  (vT:bN (dF.map V.str) itsT.toList)
  (qM:W.nsIn K mainGlobals "MOST_KINDS"=some (some (.int 3 tM)))
  (qD:W.nsIn K mainGlobals "ThrowError"=some (some (.ref xcD)))
  (q1:W.nsIn K mainGlobals "NoProgram"=some (some (.ref xc1)))
  (q2:W.nsIn K mainGlobals "NoFit"=some (some (.ref xc2)))
  (q3:W.nsIn K mainGlobals "NoPaper"=some (some (.ref xc3)))
  (q4:W.nsIn K mainGlobals "NoRow"=some (some (.ref xc4)))
  (q5:W.nsIn K mainGlobals "NoRows"=some (some (.ref xc5)))
  (q6:W.nsIn K mainGlobals "NoText"=some (some (.ref xc6)))
  (q7:W.nsIn K mainGlobals "TooMany"=some (some (.ref xc7)))
  (uD:K.lookup xcD=some (excClassObj nmD qnD xcD xND bsD (veB) true snD subD abD colD ddD kaD kbD kcD kdD keD "ValueError.__new__"))
  (u1:K.lookup xc1=some (excClassObj nm1 qn1 xc1 xN1 bs1 (.ref xcD :: veB) true sn1 sub1 ab1 col1 dd1 ka1 kb1 kc1 kd1 ke1 "ValueError.__new__"))
  (u2:K.lookup xc2=some ⟨oc_2,oo_2,.cls cd_2,ol_2⟩)
  (ty2:W.typeIn K (.ref xc2)=some (.type "type"))
  (u3:K.lookup xc3=some ⟨oc_3,oo_3,.cls cd_3,ol_3⟩)
  (ty3:W.typeIn K (.ref xc3)=some (.type "type"))
  (u4:K.lookup xc4=some ⟨oc_4,oo_4,.cls cd_4,ol_4⟩)
  (ty4:W.typeIn K (.ref xc4)=some (.type "type"))
  (u5:K.lookup xc5=some ⟨oc_5,oo_5,.cls cd_5,ol_5⟩)
  (ty5:W.typeIn K (.ref xc5)=some (.type "type"))
  (u6:K.lookup xc6=some ⟨oc_6,oo_6,.cls cd_6,ol_6⟩)
  (ty6:W.typeIn K (.ref xc6)=some (.type "type"))
  (u7:K.lookup xc7=some ⟨oc_7,oo_7,.cls cd_7,ol_7⟩)
  (ty7:W.typeIn K (.ref xc7)=some (.type "type"))
  (tnD:K.lookup xND=some ⟨ooD,oeD,.dict esD enD,xlD⟩)
  (ttD:(esD.toList.all fun e=>match e.key with | .str _ _=>true | _=>false)=true)
  (niD:W.nsIn K xND "__init__"=some none)
  (tn1:K.lookup xN1=some ⟨oo1,oe1,.dict es1 en1,xl1⟩)
  (tt1:(es1.toList.all fun e=>match e.key with | .str _ _=>true | _=>false)=true)
  (ni1:W.nsIn K xN1 "__init__"=some (some (.ref iI)))
  (sa1:W.findIn K (.ref xc1) "__setattr__"=some (some (.builtin "object.__setattr__")))
  (ga1:W.findIn K (.ref xc1) "__getattribute__"=some (some (.builtin "BaseException.__getattribute__")))
  (gh1:W.findIn K (.ref xc1) "__getattr__"=some none)
  (ca1:W.findIn K (.ref xc1) "__class__"=some (some (.builtin "object.__class__")))
  (no1:W.findIn K (.ref xc1) "row"=some none)
  (nw1:W.findIn K (.ref xc1) "word"=some none)
  (kp1:W.keepIn K (.ref xc1)=true)
  (be1:W.subIn K (.ref xc1) (.type "BaseException")=some true)
  (ty1:W.typeIn K (.ref xc1)=some (.type "type"))
  (hg:W.specialIn K (.builtin "object.__class__") "__get__"=some (some (.builtin "getset_descriptor.__get__")))
  (ht:W.takesIn K (.builtin "object.__class__")=some true)
  (liI:K.lookup iI=some ⟨.type "function",ioI,.func (W.fnOf "__init__" "NoProgram.__init__" (dH aN0) (cH aN0) (aZ aN0) .none ikI idI ipI iaI icI itI),isI⟩)
  (ciI:W.codeIn K icI "NoProgram.__init__"=true)
  (kiI:W.keepIn K (.ref iI)=true)
  (nr:xc1∉[xc2,xc3,xc4,xc5,xc6,xc7])
  (dnot:xcD∉[xc2,xc3,xc4,xc5,xc6,xc7]) :
  ∃ fd:FuncData,(∀ (s:Shared) (v:Value),BindsTo s fd ⟨[v],[]⟩ [("_law_script",v)])/\∀ base:Heap,K.In base->base.Ns mainGlobals mg->jP l.prog w K mg base wR 114 fa fd ["_law_script"] (zW K):=by
 obtain ⟨_,la,oc,od,kV,dc,pm,an,cd,ct,sl,lk,lc,lp⟩:=t46
 cases hfa.symm.trans (W.mg_of X G la)
 refine ⟨W.fnOf "law" "law" (dH aJ7) (cH aJ7) (aZ aJ7) .none kV dc pm an cd ct,fun s v=> .of_eq rfl,fun base _ _=>?_⟩;have Z:Zx l.prog w K mg base:= .of X G;have y_reversed:=Z.no _ z_reversed;have y_all:=Z.no _ z_all;have y_dict:=Z.no _ z_dict;have y_len:=Z.no _ z_len;have y_set:=Z.no _ z_set;have y_min:=Z.no _ z_min;have y_any:=Z.no _ z_any;have y_max:=Z.no _ z_max;have y_list:=Z.no _ z_list;have y_range:=Z.no _ z_range;have y_tuple:=Z.no _ z_tuple;have y_int:=Z.no _ z_int;have y_enumerate:=Z.no _ z_enumerate;have y_sum:=Z.no _ z_sum;have y_isinstance:=Z.no _ z_isinstance;have y_ValueError:=Z.no _ z_ValueError;have y_bool:=Z.no _ z_bool;have mT:=Z.ns _ _ qT;have mM:=Z.ns _ _ qM;have zT:itsT.size<=sizeLine:=by
  have e:=vT.length;have e2:itsT.size=4:=by rw [<- pq];simpa [dF] using e.symm
  rw [e2]
  decide
 have hT:∀ H,aQ K H xcT (dF.map V.str):=fun H=> .inr ⟨_,itsT,nT,uT,rfl,rfl,zT,vT⟩
 have W1:=aQ8 u1 sa1 ga1 gh1;have Z1:XIs K xc1:=⟨ca1,hg,ht⟩
 have TD:W.typeIn K (.ref xcD)=some (.type "type"):=by show (K.lookup xcD).map _=_;rw [uD];rfl
 have CD:(W.clsIn K xcD).isSome=true:=by unfold W.clsIn;rw [uD];rfl
 have CP:(W.clsIn K xc1).isSome=true:=by unfold W.clsIn;rw [u1];rfl
 have cl2:(W.clsIn K xc2).isSome=true:=by unfold W.clsIn;rw [u2];rfl
 have cl3:(W.clsIn K xc3).isSome=true:=by unfold W.clsIn;rw [u3];rfl
 have cl4:(W.clsIn K xc4).isSome=true:=by unfold W.clsIn;rw [u4];rfl
 have cl5:(W.clsIn K xc5).isSome=true:=by unfold W.clsIn;rw [u5];rfl
 have cl6:(W.clsIn K xc6).isSome=true:=by unfold W.clsIn;rw [u6];rfl
 have cl7:(W.clsIn K xc7).isSome=true:=by unfold W.clsIn;rw [u7];rfl
 have FM:oH K xc1 [xc2,xc3,xc4,xc5,xc6,xc7] xcD:=⟨W1,Z1,(by
  intro C h;simp only [List.mem_cons,List.not_mem_nil,or_false] at h;rcases h with rfl | rfl | rfl | rfl | rfl | rfl
  ·exact ty2
  ·exact ty3
  ·exact ty4
  ·exact ty5
  ·exact ty6
  ·exact ty7
  ),(by
  intro C h;simp only [List.mem_cons,List.not_mem_nil,or_false] at h;rcases h with rfl | rfl | rfl | rfl | rfl | rfl
  ·exact cl2
  ·exact cl3
  ·exact cl4
  ·exact cl5
  ·exact cl6
  ·exact cl7
  ),nr,dnot,CD,TD⟩
 have UP:XUp K xc1:=⟨ty1,CP,be1⟩
 have MK1:=bQ6 u1 kp1 (aA4 tn1 tt1) ni1 uD (aA4 tnD ttD) niD;have FI:=yF (st:=aN0) liI ciI kiI;have BI:=FI.b3 (p1:="self") (p2:="word") (p3:="row") fun _ _ _ _ _ _ _ _ _=>rfl
 have GI:=bE9 (P:=l.prog) (w:=w) (mg:=mg) (base:=base) W1 nw1 no1 FI;have mD:=Z.ns _ _ qD;have mc1:=Z.ns _ _ q1;have mc2:=Z.ns _ _ q2;have mc3:=Z.ns _ _ q3;have mc4:=Z.ns _ _ q4;have mc5:=Z.ns _ _ q5;have mc6:=Z.ns _ _ q6;have mc7:=Z.ns _ _ q7;have MK:Mk2 l.prog w K mg base xc1 (pE xc1) "NoProgram":=⟨_,_,_,_,_,MK1,liI,rfl,GI,BI,mc1⟩
 have C1:=Z.c1 t1 (bG6);have C2:=Z.c1 t2 (bD4 C1);have C3:=Z.c1 t3 (bB7 mT hT);have C4:=Z.c1 t4 (bF5 C2);have C5:=Z.c1 t5 (aZ6);have C6:=Z.c1 t6 (bF2 C5);have C7:=Z.c1 t7 (bB3 C5 C6 y_reversed);have C8:=Z.c2 t8 (bE3);have C9:=Z.c1 t9 (aZ8);have C10:=Z.c1 t10 (bA6 mT hT C9);have C11:=Z.c1 t11 (bC0 C10);have C12:=Z.c2 t12 (bD8);have C13:=Z.c1 t13 (bA8 C3 C12 C4 y_all y_dict);have C14:=Z.c1 t14 (bF4 C8);have C15:=Z.y1 t15 (aZ0 MK mM y_len y_set);have C16:=Z.y1 t16 (bC1 MK C15 C7 C14 C11 C13 y_min y_any);have C17:=Z.c2 t17 fun F=>aV9 F y_max y_reversed y_list
 have C18:=Z.c2 t18 fun F=>aQ9 F y_len
 have C19:=Z.c2 t19 (bF3 C18 y_range y_len);have C20:=Z.c2 t20 (aZ1 C18 y_tuple y_range);have C21:=Z.c2 t21 (bG9 C18 y_len);have C22:=Z.c3 t22 (bG7 C18 C21 C20 y_int y_tuple y_range);have R23:∀ n,Cl l.prog w K mg base (n+1) (aE3 n) "_law_term":=fun n=>by
  induction n with
  |zero=>exact Z.c4 (p1:="_law_deal_here") (p2:="_law_known") (p3:="_law_room") (p4:="_law_deep") t23 okn
  |succ n ih=>exact Z.c4 t23 (aZ9 n ih C18 y_len)
 have C23:=R23 6;have C24:=Z.c4 t24 (bD0 C18 C22 C23);have B0:=Z.c5 t26 (uL 0 C18 C23 C24 (Z.c5 (p1:="_law_deal_here") (p2:="_law_scene") (p3:="_law_known") (p4:="_law_tells_here") (p5:="_law_deep") t25 okn) (Z.c5 (p1:="_law_deal_here") (p2:="_law_scene") (p3:="_law_known") (p4:="_law_tells_here") (p5:="_law_deep") t26 okn) y_range y_tuple y_len);have W1_:=Z.c5 t25 (xW 0 C23 B0 C18);have B1:=Z.c5 t26 (uL 1 C18 C23 C24 W1_ B0 y_range y_tuple y_len);have W2_:=Z.c5 t25 (xW 1 C23 B1 C18);have B2:=Z.c5 t26 (uL 2 C18 C23 C24 W2_ B1 y_range y_tuple y_len);have W3_:=Z.c5 t25 (xW 2 C23 B2 C18);have B3:=Z.c5 t26 (uL 3 C18 C23 C24 W3_ B2 y_range y_tuple y_len);have C26:=B3;have C27:=Z.c2 t27 (bE2 C19 C26 C18 y_tuple y_range y_len);have C29:=Z.c2 t29 (bI4 y_len);have R30:∀ n,Cl l.prog w K mg base (n+1) (pH n) "_law_row_by":=fun n=>by
  induction n with
  |zero=>exact Z.c2 (p1:="_law_row") (p2:="_law_many") t30 okn
  |succ n ih=>exact Z.c2 t30 (bE8 n C29 ih y_tuple y_int)
 have C30:=R30 8;have C28:=Z.c2 t28 (bC3 C30 y_tuple y_len);have C31:=Z.c2 t31 (bJ7 C18 C28 y_tuple y_len y_min);have R32:∀ n,Cl l.prog w K mg base (n+1) (jO n) "_law_paths":=fun n=>by
  induction n with
  |zero=>exact Z.c1 (p1:="_law_rows") t32 okn
  |succ n ih=>exact Z.c1 t32 (bA2 n ih y_enumerate)
 have C32:=R32 8;have R33:∀ n,Cl l.prog w K mg base (n+1) (jL n) "_law_row_at":=fun n=>by
  induction n with
  |zero=>exact Z.c2 (p1:="_law_rows") (p2:="_law_path") t33 okn
  |succ n ih=>exact Z.c2 t33 (bG4 n ih y_len)
 have C33:=R33 8;have R34:∀ n,Cl l.prog w K mg base (n+1) (wS n) "_law_put":=fun n=>by
  induction n with
  |zero=>exact Z.c3 (p1:="_law_rows") (p2:="_law_path") (p3:="_law_some") t34 okn
  |succ n ih=>exact Z.c3 t34 (bJ8 n ih y_len)
 have C34:=R34 8;have R35:∀ n,Cl l.prog w K mg base (n+1) (oW n) "_law_other_term":=fun n=>by
  induction n with
  |zero=>exact Z.c3 (p1:="_law_deal_here") (p2:="_law_term_here") (p3:="_law_names_here") t35 okn
  |succ n ih=>exact Z.c3 t35 (bC4 n ih C18 y_len)
 have C35:=R35 101;have C36:=Z.c2 t36 (bG0 C18 y_min y_max);have C37:=Z.c3 t37 (bG3 C18 C36 C35 y_len);have C38:=Z.c3 t38 (bF8 C32 C34 C31 C18 C37 C33 y_len);have C39:=Z.c3 t39 (bK0 C18 C32 C34 C28 C33 y_len);have R40:∀ n,Cl l.prog w K mg base (n+1) (aA7 n) "_law_names_in":=fun n=>by
  induction n with
  |zero=>exact Z.c1 (p1:="_law_term_here") t40 okn
  |succ n ih=>exact Z.c1 t40 (bI6 n ih y_int)
 have C40:=R40 101;have R41:∀ n,Cl l.prog w K mg base (n+1) (aB2 n) "_law_tells":=fun n=>by
  induction n with
  |zero=>exact Z.c1 (p1:="_law_rows") t41 okn
  |succ n ih=>exact Z.c1 t41 (bA3 n ih y_sum)
 have C41:=R41 8;have C42:=Z.c2 t42 (aY8 C41 C40 y_len y_int);have R43:∀ n,Cl l.prog w K mg base (n+104) (uG n) "_law_faults":=fun n=>by
  induction n with
  |zero=>exact Z.c3 (p1:="_law_rows") (p2:="_law_at") (p3:="_law_known") t43 okn
  |succ n ih=>exact Z.c3 t43 (aY5 n ih C42)
 have C43:=R43 8;have C44:=Z.c1 t44 (bH9 C43 C33 C32 y_len y_set);have C45:=Z.c1 t45 (bC8 mD mc1 mc2 mc3 mc4 mc5 mc6 mc7 UP FM no1 nw1 C16 y_isinstance y_ValueError y_bool y_int);exact bH2 C17 C27 C19 C33 C38 C32 C18 C39 C45 C44 C16 y_range y_len (yF lk lc lp)
theorem walk {l:W.OpenLaw}{q:Program}{loose:List Str}{XP:(Str->Option Value)->Heap->Prop}{YP:World->Heap->Prop}{d:DefRec}{K:Params->W.Frag}(hn:l.most=some 63) (hdf:d.params.defaults=[])
  (hY:∀ (w:World) (h:Heap),YP w h->(K w.params).In h)
  (F:∀ (w:World) (mg:Str->Option Value) (fa:Addr) (h:Heap),(K w.params).In h->h.Ns mainGlobals mg->mg d.name=some (.ref fa) ->
   ∃ fd:FuncData,(∀ (s:Shared) (u:Value),BindsTo s fd ⟨[u],[]⟩ [("_law_script",u)])/\∀ base:Heap,(K w.params).In base->base.Ns mainGlobals mg->jP l.prog w (K w.params) mg base wR 114 fa fd ["_law_script"] (zW (K w.params))) :
  W.WalkO q loose XP YP l.row.toRowW d [] (fun f vs=>PySem.call f vs) :=
 L2.walk_of (n:=63) (k:=114) (x:="_law_script") (CX:=fun _=>wR) (sp:=fun w=>zW (K w.params)) hn (by decide) hdf ⟨rfl,by decide,by decide,rfl⟩ hY F (fun _ _ a ns hl _ hS=>⟨a,ns,rfl,hS,hl,fun _=>rfl⟩) fun _ _ _ _ _ z=>z
end Mine
open PySem PySem.W PyProof.Rows
namespace PySem.W.Fast
def tw10010958546047366590:=0
def tw1002547480118419937:=0
def tw10040813898873069348:=0
def tw10162289833396772763:=0
def tw10218764401240157556:=0
def tw10229202754607715512:=0
def tw10278233167094311661:=0
def tw10310551619028803541:=0
def tw10352109833362070139:=0
def tw1044069090377213736:=0
def tw10590262694595652426:=0
def tw1063048195067954099:=0
def tw10633509165028565990:=0
def tw10712630218237910758:=0
def tw10722070351720434390:=0
def tw10722903024276843791:=0
def tw10772323428638227346:=0
def tw10866410141619245970:=0
def tw10879312986276079297:=0
def tw10881270126482690572:=0
def tw10887578162271865178:=0
def tw10944023735141510635:=0
def tw10955858324931250392:=0
def tw10966507755916100939:=0
def tw1106224984895234391:=0
def tw11128465445707016380:=0
def tw1117882061470595094:=0
def tw11201062086708856232:=0
def tw11232591772771732866:=0
def tw11286264048563888721:=0
def tw11322711437477814738:=0
def tw11359134265422613543:=0
def tw11398932454996841483:=0
def tw11467360706592931568:=0
def tw11481978546602395723:=0
def tw11524517785761879215:=0
def tw11533334513304710974:=0
def tw11554990883495873528:=0
def tw11568032747413582338:=0
def tw11581928686883301874:=0
def tw11671693340413674820:=0
def tw11697105468728726622:=0
def tw11704716135624621520:=0
def tw11739077652608421695:=0
def tw11743807182018307204:=0
def tw1177694246061618720:=0
def tw11781930554724031177:=0
def tw11857086183529235524:=0
def tw11933073978910360215:=0
def tw11938337273281944272:=0
def tw11983755321278303595:=0
def tw12035968783572349698:=0
def tw12069558222285305427:=0
def tw12113262177326846848:=0
def tw12128700193655675776:=0
def tw1215146124495237356:=0
def tw12161079899657048039:=0
def tw12168543524477669812:=0
def tw12173903504422654128:=0
def tw12219970785338050083:=0
def tw12295205761339544621:=0
def tw12334247738914276783:=0
def tw12353211204956198431:=0
def tw12388216784192407454:=0
def tw1242805286325927318:=0
def tw12430714393186514742:=0
def tw12468312703174521909:=0
def tw12474872085756222681:=0
def tw12487558628053229473:=0
def tw12525571872514908872:=0
def tw12543677928525598297:=0
def tw12601479703525429037:=0
def tw12624146520965055332:=0
def tw12717595346586006325:=0
def tw12741735974290147808:=0
def tw12773699056072702623:=0
def tw12849847049161967034:=0
def tw12880461953316829463:=0
def tw12894257509607663321:=0
def tw12954487386608036282:=0
def tw13015442059730428076:=0
def tw13134159484946992353:=0
def tw13234257648716245931:=0
def tw13245635154837664476:=0
def tw13258019255054259725:=0
def tw13350360789759337439:=0
def tw13353728949819207537:=0
def tw13369702922872842780:=0
def tw13385345982313277186:=0
def tw13419204393816759396:=0
def tw13431337141984405328:=0
def tw13448298105841093972:=0
def tw1346711123866527784:=0
def tw13478960910576583419:=0
def tw13495419632377121181:=0
def tw13608838215713585378:=0
def tw13620151622344503094:=0
def tw13633479824046454949:=0
def tw13637363423389885738:=0
def tw13693693092190779016:=0
def tw13786049356361983684:=0
def tw13792460431559688936:=0
def tw13811790687205025230:=0
def tw13818019877461928715:=0
def tw13819542091849015572:=0
def tw13849800853144724022:=0
def tw13869102228688374868:=0
def tw13941421192992794197:=0
def tw14016668072633711383:=0
def tw1408960561995110365:=0
def tw14199243067891379100:=0
def tw14213847576783379752:=0
def tw14226513001693261021:=0
def tw14262049628311592155:=0
def tw14322996780044724394:=0
def tw14333044001563276894:=0
def tw14337264825938680069:=0
def tw14498408123032395725:=0
def tw14499409656373376266:=0
def tw1455072768049038294:=0
def tw1458788853722318529:=0
def tw14597332172983593194:=0
def tw14690312168471047606:=0
def tw1472496949251624339:=0
def tw14781135828523231173:=0
def tw14852634378178272012:=0
def tw14869431812436071873:=0
def tw15027490710144589814:=0
def tw15108636375131507781:=0
def tw15193687237268375614:=0
def tw15320897346431903323:=0
def tw15422674568521597558:=0
def tw15471715550751955308:=0
def tw15500939986582105836:=0
def tw15556654372587368695:=0
def tw15585698898400822445:=0
def tw15602140867580193811:=0
def tw15628775983459310323:=0
def tw1564077160403106509:=0
def tw15688956983225087001:=0
def tw15822118637643872486:=0
def tw15842923150922683548:=0
def tw159117199554133403:=0
def tw16023501442957522631:=0
def tw16102036138395333825:=0
def tw16245275478095936016:=0
def tw16310092269214931395:=0
def tw16311100301789352475:=0
def tw16374961656794607701:=0
def tw16486917834205229171:=0
def tw16510470724421545172:=0
def tw16519273806880688826:=0
def tw16545831655186266269:=0
def tw16551169049324159878:=0
def tw16568074200274529240:=0
def tw16570791507252232814:=0
def tw16649388685610857740:=0
def tw16664065593509796974:=0
def tw16701663834673641543:=0
def tw16776364199534146135:=0
def tw16782718211887538692:=0
def tw16784626907876956901:=0
def tw16830411391098442545:=0
def tw16887953461265973856:=0
def tw16888458189589460902:=0
def tw16937076233781032821:=0
def tw16953017312478619652:=0
def tw1697039220979254165:=0
def tw1705551484073501352:=0
def tw17082499904036187256:=0
def tw17089472108558944851:=0
def tw17135183404852666802:=0
def tw17165519886205112740:=0
def tw17195011643414771742:=0
def tw1720700810875550801:=0
def tw17231091647486207169:=0
def tw17264620958037675316:=0
def tw17268498068656774157:=0
def tw17292668240554145350:=0
def tw1732618222837468504:=0
def tw17382212889166130573:=0
def tw17392354270990912909:=0
def tw17473109951893787482:=0
def tw17502561212649642301:=0
def tw17543517001134029232:=0
def tw17567356000568945102:=0
def tw17649990254705176859:=0
def tw17654948673755565157:=0
def tw1771685438500080336:=0
def tw17821156976684342833:=0
def tw17893581171526651915:=0
def tw17951962648726773113:=0
def tw18044828525010351356:=0
def tw18155597836326791411:=0
def tw18182992895199947060:=0
def tw18234665569632072895:=0
def tw18243882797473158893:=0
def tw18262816981671159610:=0
def tw18344353913966507372:=0
def tw1835158275284416511:=0
def tw18386122349599694414:=0
def tw18392667791144581084:=0
def tw18438789609214217791:=0
def tw1874661024534199681:=0
def tw189453893915161593:=0
def tw1908933900897118939:=0
def tw1935262691249360307:=0
def tw1959557952922736839:=0
def tw2006766357062237231:=0
def tw2034110347459090838:=0
def tw2047025814391092471:=0
def tw2050991755185138589:=0
def tw2053095431470962010:=0
def tw2088153111298593819:=0
def tw2115693628873476845:=0
def tw2117170412939250302:=0
def tw2136053708998581188:=0
def tw2141778258204946154:=0
def tw2142541564490669491:=0
def tw2201004633342557526:=0
def tw2201987051676475740:=0
def tw220821166867778952:=0
def tw226839574723917117:=0
def tw227376931993596814:=0
def tw2281756434634064087:=0
def tw2357601231509688095:=0
def tw2391534256240628746:=0
def tw2393410118141292623:=0
def tw2412229902356907843:=0
def tw2549597347333556562:=0
def tw2554627576898733619:=0
def tw2566315474240160481:=0
def tw2621279578837322866:=0
def tw2645290997663713117:=0
def tw2722889033455208069:=0
def tw2791429252934677926:=0
def tw2850353270215291456:=0
def tw2878002300789085110:=0
def tw2891172733070912289:=0
def tw2922634323336715182:=0
def tw2930097911345036842:=0
def tw3042054058563847704:=0
def tw3057328745452458021:=0
def tw3074770781289579571:=0
def tw3165545762058215203:=0
def tw3176159324617401941:=0
def tw3210341159959901346:=0
def tw3299542598816155066:=0
def tw3311276465780326705:=0
def tw3377455489449369251:=0
def tw3476037842569026821:=0
def tw349605641680601387:=0
def tw3552393613592425101:=0
def tw3556225624975409717:=0
def tw355745888410004863:=0
def tw3602668947014073279:=0
def tw3608711086464844886:=0
def tw3627263667068068425:=0
def tw3632284665519113971:=0
def tw3634821978371130060:=0
def tw3658641327393801885:=0
def tw3694355930375614268:=0
def tw370041116758740013:=0
def tw373444835972575766:=0
def tw3738556455279337773:=0
def tw3849395655250805994:=0
def tw3900972865978733551:=0
def tw3914419171063907668:=0
def tw3925820814064718261:=0
def tw3936468042240121818:=0
def tw3956139759949676495:=0
def tw3963981238547753443:=0
def tw3981582790615266038:=0
def tw4107893285899098337:=0
def tw4113350147940977973:=0
def tw4156069305484685821:=0
def tw4159863783247046813:=0
def tw4178908761909387867:=0
def tw4180486200501043047:=0
def tw4283572347039974530:=0
def tw432398952780752717:=0
def tw4353417621998787904:=0
def tw4379532985035690836:=0
def tw4389085341364004538:=0
def tw4394408303118023851:=0
def tw4397813110292430017:=0
def tw4405282478780290096:=0
def tw4423424351569532169:=0
def tw4456107718933561458:=0
def tw4572465485972364938:=0
def tw4625373925639696634:=0
def tw4626452503282902740:=0
def tw4640576173027740481:=0
def tw4683512200821633273:=0
def tw4713492072968061242:=0
def tw4786236172800354558:=0
def tw4844334302152496388:=0
def tw4928603071283394098:=0
def tw5127895712706092441:=0
def tw5164726565932677951:=0
def tw5165883682258269116:=0
def tw5202356433674497494:=0
def tw5222594791731247858:=0
def tw5262043842636465115:=0
def tw5340327431132230940:=0
def tw5437392063319616109:=0
def tw5521980522971080897:=0
def tw5579730915694633100:=0
def tw5613144076627704790:=0
def tw5618955367064627864:=0
def tw5651585085760295240:=0
def tw5664772030273080875:=0
def tw5725099130493227288:=0
def tw57586228191476824:=0
def tw5767118369883549708:=0
def tw5845260129073593413:=0
def tw5853163421485705277:=0
def tw5873520493163218323:=0
def tw5906538775231773927:=0
def tw5911035861418349729:=0
def tw5961399427725044487:=0
def tw5969077056146221877:=0
def tw6000336014677863026:=0
def tw6132961814010027548:=0
def tw6185755567690300964:=0
def tw6254995746389952336:=0
def tw6277140206459506507:=0
def tw6291947971972064932:=0
def tw6353200199165833770:=0
def tw6453480350407802435:=0
def tw6470682579465025951:=0
def tw649284311896692143:=0
def tw6545076529488992472:=0
def tw6560895745487446396:=0
def tw6591386468351020184:=0
def tw6611614496612889892:=0
def tw6661856906505438550:=0
def tw6672153454580571860:=0
def tw6675679228028719537:=0
def tw6682747973791795457:=0
def tw6736341210664205152:=0
def tw6739702225966843265:=0
def tw6785014254153365280:=0
def tw6858977225182764744:=0
def tw6899567019329637787:=0
def tw6922391040291668570:=0
def tw7020592152526583797:=0
def tw7091303940953113746:=0
def tw7105003742471263988:=0
def tw726305297667696622:=0
def tw7345004720913415119:=0
def tw7453420853731189119:=0
def tw7513254192991295662:=0
def tw7587261476427877246:=0
def tw7591106205573762164:=0
def tw7621490002412206913:=0
def tw7682071326405351552:=0
def tw7702728352590881217:=0
def tw7720051866533488333:=0
def tw7753796055111284007:=0
def tw7845191129947441457:=0
def tw788352648554372146:=0
def tw7902754734571587999:=0
def tw7946727922258064895:=0
def tw7974655337349754606:=0
def tw8098275449686603534:=0
def tw811296022302497158:=0
def tw8183411608005881549:=0
def tw8196492801577369848:=0
def tw8220105275617281697:=0
def tw8312786511825003941:=0
def tw8408471049829841720:=0
def tw8494785336699486179:=0
def tw851808900370571012:=0
def tw8614446876508029036:=0
def tw8618989784896023470:=0
def tw8697358361875614650:=0
def tw8742595667561894267:=0
def tw8773527482168310652:=0
def tw8807838595329151871:=0
def tw8910203039677054182:=0
def tw891483763310052686:=0
def tw9006583308803492296:=0
def tw9082078445167755243:=0
def tw9102568882550677838:=0
def tw9194939079421608728:=0
def tw9257466940624543750:=0
def tw9258597838623278427:=0
def tw9259124669821342491:=0
def tw9261105963158856365:=0
def tw9386497121385625960:=0
def tw9422484143792830802:=0
def tw9561697743162738644:=0
def tw9568045693967417704:=0
def tw9600029856319687856:=0
def tw9647774384555301883:=0
def tw9669539800872987208:=0
def tw9673092302328505603:=0
def tw9729776117293529350:=0
def tw973978173376413587:=0
def tw9771452903469593605:=0
def tw9785638219038544938:=0
def tw9831400577079871512:=0
def tw9889350916500019213:=0
end PySem.W.Fast
set_option maxRecDepth 100000 in
set_option maxHeartbeats 0 in
theorem PySem.Challenge.cw_pairedthrows_k18_the_first_amiss_holds : PySem.Challenge.rw_pairedthrows_k18_the_first_amiss.Holds := by
  w_on;o_law;k_head;(case hw=>w_witness2)
  k_fill
  refine Mine.walk (l:=PySem.Challenge.rw_pairedthrows_k18_the_first_amiss) rfl rfl (fun w h Y=>PySem.W.kIn_of Y) ?F
  case F =>
    intro w mg fa h KX G hmg
    refine' Mine.all_mk KX G hmg ?a0 ?a1 ?a2 ?a3 ?a4 ?a5 ?a6 ?a7 ?a8 ?a9 ?a10 ?a11 ?a12 ?a13 ?a14 ?a15 ?a16 ?a17 ?a18 ?a19 ?a20 ?a21 ?a22 ?a23 ?a24 ?a25 ?a26 ?a27 ?a28 ?a29 ?a30 ?a31 ?a32 ?a33 ?a34 ?a35 ?a36 ?a37 ?a38 ?a39 ?a40 ?a41 ?a42 ?a43 ?a44 ?a45 ?a46 ?a47 ?a48 ?a49 ?a50 ?a51 ?a52 ?a53 ?a54 ?a55 ?a56 ?a57 ?a58 ?a59 ?a60 ?a61 ?a62 ?a63 ?a64 ?a65 ?a66 ?a67 ?a68 ?a69 ?a70 ?a71 ?a72 ?a73 ?a74 ?a75 ?a76 ?a77 ?a78 ?a79 ?a80 ?a81 ?a82 ?a83 ?a84 ?a85 ?a86 ?a87 ?a88 ?a89 ?a90 ?a91 ?a92 ?a93 ?a94 ?a95 ?a96 ?a97 ?a98 ?a99 ?a100 ?a101 ?a102 ?a103 ?a104 ?a105 ?a106 ?a107 ?a108 ?a109 ?a110
    case a46|a47|a48|a49|a50|a51|a52|a53|a54|a55|a56|a57|a58|a59|a60|a61|a62|a63|a64=>k_is
    case a65=>exact .cons ⟨_,rfl⟩ (.cons ⟨_,rfl⟩ (.cons ⟨_,rfl⟩ (.cons ⟨_,rfl⟩ .nil)))
    case a66|a67|a68|a69|a70|a71|a72|a73|a74|a75|a76|a77|a78|a79|a80|a81|a82|a83|a84|a85|a86|a87|a88|a89=>k_is
    case a90=>rfl
    case a91|a92=>k_is
    case a93=>rfl
    case a94|a95|a96|a97|a98|a99|a100|a101|a102|a103|a104|a105|a106|a107|a108=>k_is
    case a109|a110=>decide
    case a0|a1|a2|a3|a4|a5|a6|a7|a8|a9|a10|a11|a12|a13|a14|a15|a16|a17|a18|a19|a20|a21|a22|a23|a24|a25|a26|a27|a28|a29|a30|a31|a32|a33|a34|a35|a36|a37|a38|a39|a40|a41|a42|a43|a44|a45=>apply L2.TopAt.of<;>k_is
