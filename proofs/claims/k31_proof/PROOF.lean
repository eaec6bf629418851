import PyProof.Rows.All
import Wide.All
import OpenK.AllK
import Wide.FinOn
import Lean
import PyProof.EqAt
import PyProof.EqKinds
import PyProof.TupleCall
import KE.KDictOf
import PyProof.AttrMissHeap
import KE.KSortTup
import PyProof.Rows.InDataRows
import KE.KRevSl
import PyProof.Rows.SetFrom
import PyProof.Rows.SortStr
import KE.KDictLaws
import PyProof.DictWalks
import PyProof.DictItems
import KE.KDictList
import KE.KPairComp
import PyProof.Rows.Range3
import PyProof.AutoListH
import PySem.Challenge.RW_pairedthrows_k31_whole_just_one_of_both
set_option Elab.async false
set_option linter.all false
set_option maxRecDepth 100000
local macro_rules|`(∅)=>`(by omega)
local macro_rules|`(tactic|omega)=>`(tactic|lia)
local macro_rules|`(def $i:declId $s:optDeclSig $v:declVal)=>`(noncomputable def $i:declId $s:optDeclSig $v:declVal)
noncomputable section
local macro_rules|`(tactic|exists $es,*)=>`(tactic|refine ⟨$es,*⟩)
open PySem renaming wpAny_bind->aa,wpAny_pure->aj,wpAny_call_entry->eh,wpAny_holding->fg,wpAny_callSpecial?_slot->fm,wpAny_mono->gh,wpAny_newObj_type->gw,wpAny_field->gx,wpAny_seqItems->ia,wpAny_setField_rec->ib,wpAny_pyIter_list->im,wpAny_dictEntries->io,boot_len->jb,wpAny_notOrdered_dict->je,wpAny_truthy_bool->jl,wpAny_dictEpoch->jp,wpAny_Call_Name_kw->kc,wpAny_specialOf->kh,wpAny_typeNameOfWhole_itemiter->kl,wpAny_typeNameOfWhole_keyiter->kq,wpAny_typeNameOfWhole_valiter->kr,mem_of_lookup->md,wpAny_isInstance->mf,wpAny_rule->mj,wpAny_typeOf->my,wpAny_passesOwn->nj,wpAny_attempt->oh,wpAny_setField->pf,wpAny_Call_method0_late->pq,tupleKind_room_in1->pz,codeAny_builtin->qb,wpAny_pyNext_list_item->qe,wpAny_pyNext_list_end->qi,builtinLookup_eq_fast->qj,wpAny_fieldsOf->ql,sizeLine_eq->qz,evalArgs_none->rc,wpAny_pyIter_tuple->rp,slot_listiter_next->su,wpAny_isOneOf_itemiter->ud,wpAny_standAt->ue,wpAny_isOneOf_valiter->uq,wpAny_execs_nil->vc,call_meets->vf,typeLookup_type->vh,wpAny_AugAssign_SubscriptAny->wj,callType_codes->wn,isSubtype_stop->wq,wpAny_pyIter_slot->xu,codeAny_mono->yc,wpAny_forIn_list->ye,noFill_tuple_add->yf,wpAny_comprehension_free->yg,entryFor_of_tree->yi,kt_code_dict_new->yk,wpAny_pyNext_tuple_item->yr,wpAny_pyNext_tuple_end->zc,wpAny_pyNext_range_end->zd,wpAny_pyIter_rangeiter->ze,wpAny_Assign_Subscript->zi,wpAny_letGo->zu,wpAny_isTrue_Compare1->aAe,wpAny_tryCatch->aAf,wpAny_newTuple->aAg,wpAny_isOneOf_keyiter->aAh,isSubtype_tuple_tuple->aAi,wpAny_loadName_local->aAq,wpAny_pyIter_keyiter->aAt,wpAny_updateSeq_pair->aAu,wpAny_pyIter_valiter->aAv,seq_tuple_add->aBa,wpAny_onRaise->aBb,wpAny_loadName_cell->aBe,entry_listiter_next->aBh,wpAny_pyIter_range->aBj,wpAny_getItem_heap->aBm,wpAny_setItem_heap->aBn,call_meetsIn->aBo,concat_meets->aBq,seqIndex_neg->aBr,sub_AttributeError->aBv,wpAny_dictSet_heap->aBw,args_listiter_next->aBx,seqIndex_of->aCa
open List renaming length_map->ae,getElem?_eq_getElem->ak,mem_map->am,map_cons->au,mem_cons_of_mem->ba,take_length->be,mem_cons_self->bj,mem_cons->bo,map_append->bp,mem_of_getElem?->bq,mem_filter->br,getElem?_eq_some_iff->bw,length_take->bx,mem_append->cj,mem_singleton->ck,getElem?_map->cp,length_append->cq,not_mem_nil->cu,size_toArray->cv,map_map->cz,length_filter_le->de,mem_append_right->dh,sum_cons->di,length_cons->dq,filter_cons_of_neg->dz,filter_nil->eu,filter_cons_of_pos->fb,nodup_cons->fh,filter_append->fk,mem_append_left->fu,append_nil->fw,any_eq_true->fy,filter_sublist->gq,getElem_of_mem->ij,map_congr_left->ik,foldl_cons->jd,map_nil->jf,nodup_nil->jj,length_eq_zero_iff->jk,take_of_length_le->jx,getElem_mem->jz,mem_iff_getElem->ki,find?_eq_none->nh,length_replicate->nu,take_append_drop->nv,nodup_iff_pairwise_ne->oj,foldl_append->ot,filter_congr->ou,getElem?_append_left->ow,drop_eq_getElem_cons->oz,mem_of_mem_take->pc,mem_of_find?_eq_some->pe,nodup_append->qh,dropLast_concat_getLast->qo,eraseIdx_sublist->qp,any_cons->qt,of_mem_zip->rf,sum_append->rg,pairwise_iff_getElem->rl,getElem?_eq_none_iff->rn,mem_range->sx,eraseIdx_cons_succ->tf,pairwise_map->tm,getElem_inj->uf,all_eq_true->ug,getElem?_eq_none->um,eraseIdxIfInBounds_toArray->uy,filterMap_cons->wf,map_eq_nil_iff->wg,map_id->wv,mem_filterMap->xa,zip_cons_cons->xb,getD_eq_getElem?_getD->xk,length_eraseIdx_of_lt->xm,length_range->xr,append_assoc->xw,getElem?_zip_eq_some->xz,count_singleton_self->ya,getLast?_eq_getElem?->yb,filter_cons->yn,pairwise_singleton->yy,getElem?_set_self->zb,find?_cons_of_pos->aAa,find?_cons_of_neg->aAb,take_zero->aAj,getElem?_set_ne->aAp,length_dropLast->aAr,count_singleton->aAy,replicate_succ->aBi,pairwise_cons->aBu
open PySem.Heap renaming get?_push_of_some->af,get?_push_size->aq,lt_size->bi,size_push->ip,get?_update_ne->jt,get?_update_self->kd,get?_update_other->uc
open Nat renaming le_refl->ao,lt_of_lt_of_le->cr,ne_of_lt->cw,le_trans->cy,lt_of_le_of_lt->db,zero_le->df,lt_succ_self->dy,lt_irrefl->ff,sub_lt_sub_left->gk,le_of_lt->iz,lt_succ_of_lt->on,ne_of_gt->ph,le_add_right->qr,not_lt->vg,le_succ->zf,log2_lt->zw,pow_le_pow_right->aAx,add_le_add_left->aBg,le_of_eq->aBk
open Option.some renaming inj->dm
open Int renaming mul_nonneg->dt,toNat_natCast->dw,eq_ofNat_of_zero_le->fj,le_refl->gi,mul_le_mul_of_nonneg_right->ie,mul_le_mul_of_nonneg_left->ii,lt_of_le_of_lt->iu,natCast_dvd_natCast->iw,mul_lt_mul_of_pos_right->jo,zero_add->jw,mul_ediv_cancel_left->ko,mul_pos->mq,emod_nonneg->ny,le_trans->pi,lt_trans->pk,lt_of_lt_of_le->qa,emod_lt_of_pos->qd,le_of_lt->qk,fdiv_eq_ediv_of_nonneg->qu,lt_of_mul_lt_mul_right->qv,dvd_trans->qw,ediv_pos_of_pos_of_dvd->qy,ediv_mul_cancel->re,ediv_nonneg->rh,mul_comm->sk,add_zero->sv,natCast_mul->vm,mul_le_mul->wt,eq_of_mul_eq_mul_right->xj,dvd_mul_right->xx,ediv_le_self->yh,mul_ediv_mul_of_pos->yv,natCast_add->za,one_mul->zx,dvd_natAbs->aAk,mul_ediv_cancel'->aAz,le_of_dvd->aBd,add_mul->aCc
open Bool renaming false_ne_true->du,and_eq_true->ig,eq_iff_iff->jn,eq_false_iff->oq
open PyProof.Rows renaming boot_dict->fi,callWith_type1->gt,boot_tuple->gy,boot_list->jv,boot_isinstance->mi,intBits_le->tj,boot_all->ux,int_text_len_1921->vj,assignInOrder_cons->ww,countIn_ge0->ym,get?_update_seq->yz,subscriptTail_builtinR->zt,boot_repr->aAd,boot_max->aAl,boot_min->aAm,boot_sum->aAn,boot_any->aAo,listUpdate_at->aBc,lt_int->aBf,floordiv_int->aBt,seqEpoch_at->aCb
open PySem.F renaming plainAttrs_list->gc,slot_list_append->jh,type_list_append->ji,slot_dict_valueiterator_next->kj,slot_dict_itemiterator_next->lg,plainAttrs_dict->lh,slot_dict_keyiterator_next->mh,slot_dict_setdefault->qm,args_tuple_add_2->rq,slot_dict_values->sw,entry_tuple_add->sy,slot_tuple_add->ub,args_dict_valueiterator_next_1->uh,slot_dict_get->ui,slot_tuple_lt->uj,slot_list_pop->ur,type_list_pop->ut,entry_dict_valueiterator_next->uz,args_dict_itemiterator_next_1->vb,kt_typeCall_dict_1->vo,slot_zip_next->vp,args_dict_keyiterator_next_1->vt,args_dict_setdefault_3->wa,entry_dict_itemiterator_next->wc,entry_dict_setdefault->we,args_dict_init_2->xc,entry_dict_init->xp,kt_called_dict->yj,type_dict_values->yo,args_dict_get_3->yt,args_tuple_lt_2->yu,slot_dict_values_iter->yw,slot_dict_items->yx,entry_dict_get->zj,entry_tuple_lt->zn,slot_dict_items_iter->zy
open PySem.Paired renaming length->gj,snoc->aBz
open True renaming intro->gm
open Array renaming getElem?_toList->gu,length_toList->jc,perm_iff_toList_perm->jy,getElem?_eq_getElem->oy,getElem?_eq_none->qf,toArray_toList->vi,getD_eq_getD_getElem?->xf,forIn_toList->xh
open PySem.W renaming kia_one->iq,cellsFrom_some->zh,callWith_K->aBl
open PySem.Calls renaming callWith_builtin->ja,spliced_cons->ka,spliced_nil->qg,evalArgs_plain->ve,Name_function_global->xi
open Or renaming inl->jg,inr->aBs
open PySem.Heap.SameBut renaming update->jr
open Option renaming map_eq_some_iff->ju,isSome_map->ol,map_some->vd,isSome_iff_exists->yd,map_eq_none_iff->aAc
open PySem.PassesOwn renaming never->km
open PySem.Code renaming quiet_builtin->nc
open PySem.Obj renaming data_mapFields->ng,isFreed_of_fields->uo,cls_mapFields->xq,data_mapDictKeys->aAw
open PyProof renaming noPylong_of_log2->sj
open List.Pairwise renaming sublist->uw,nil->xo
open Prod renaming ext->wo
open Sum.inl renaming inj->wu
open PySem.Walks renaming list->aAs
open PySem.SeqAt.EqAt renaming int_int->aBp
open Sum.inr renaming inj->aBy
namespace L2
theorem Rq0(_:True:=by rfl):True:=trivial
theorem Rq1(_:True:=by decide):True:=trivial
theorem Rq2(_:True:=by first | exact .inl rfl | exact .inr rfl | assumption):True:=trivial
theorem Rq3(_:True:=by intros;rfl):True:=trivial
theorem Rq4(_:True:=by intro _;rfl):True:=trivial
theorem Rq5(_:True:=by exact fun _ _=>rfl):True:=trivial
theorem Rq6(_:True:=by first | exact jg rfl | exact aBs rfl):True:=trivial
theorem Rq7(_:True:=by first | exact qD _ | rfl):True:=trivial
theorem Rq8(_:True:=by first | exact aC5 _ (by decide) (by decide) | rfl):True:=trivial
theorem Rq9(_:True:=by first | decide | omega):True:=trivial
end L2
namespace L2
open PySem PySem.Spec PyProof.Rows
def ap:=@if_neg
def ar:=@decide_eq_true
def bh:=@if_pos
def cf:=@of_decide_eq_true
def dk:=@decide_eq_false
def ed:=@congrArg
def jq:=@beq_eq_false_iff_ne
def pj:=@decide_eq_decide
def xg:=@of_decide_eq_false
def xy:=@beq_iff_eq
end L2
namespace L2
open PySem PySem.Spec PyProof.Rows
abbrev Key:=Sum Int Str
def fU:Key->Value->Bool
 |.inl k,v=>Value.isInt k v
 |.inr x,v=>Value.isStrOf x v
def cK2 (w:World):Key->Int
 |.inl k=>hashInt k
 |.inr x=>hashStr w x
theorem bG:∀ {k:Key}{v:Value},fU k v=true->(∃ i t,k=Sum.inl i/\v=Value.int i t)\/(∃ x t,k=Sum.inr x/\v=Value.str x t)
 |.inl i,v,h=>by
  obtain ⟨t,e⟩:=Value.isInt_shape (k:=i) (v:=v) h
  exact .inl ⟨i,t,rfl,e⟩
 |.inr x,v,h=>by
  obtain ⟨t,e⟩:=Value.isStrOf_shape (x:=x) (v:=v) h
  exact .inr ⟨x,t,rfl,e⟩
theorem aP6 (i:Int) (t:Tok):fU (.inl i) (.int i t)=true:=by simp [fU,Value.isInt]
theorem aO1 (x:Str) (t:Tok):fU (.inr x) (.str x t)=true:=by simp [fU,Value.isStrOf]
theorem bQ2 (a b:Int):decide ((Sum.inl a:Key)=Sum.inl b)=(a == b):=by
 by_cases e:a=b
 ·subst e;simp
 ·have h:¬ (Sum.inl a:Key)=Sum.inl b:=fun q=>e (wu q)
  rw [dk h]
  exact (jq.mpr e).symm
theorem bV7 (a b:Str):decide ((Sum.inr a:Key)=Sum.inr b)=decide (a=b):=by
 by_cases e:a=b
 ·subst e;simp
 ·have h:¬ (Sum.inr a:Key)=Sum.inr b:=fun q=>e (aBy q)
  rw [dk h,dk e]
theorem bS5 (a:Int) (b:Str):decide ((Sum.inl a:Key)=Sum.inr b)=false:=dk (fun q=>nomatch q)
theorem bW1 (a:Str) (b:Int):decide ((Sum.inr a:Key)=Sum.inl b)=false:=dk (fun q=>nomatch q)
def bL (prog:Program) (w:World):PySem.KeyKind prog w Key where
 is:=fU
 hash:=cK2 w
 inj:=fun v a b ha hb=>by
  rcases bG ha with ⟨i,t,rfl,rfl⟩ | ⟨x,t,rfl,rfl⟩
  ·rcases bG hb with ⟨j,u,rfl,e⟩ | ⟨y,u,rfl,e⟩
   ·injection e with e1 _;rw [e1]
   ·exact nomatch e
  ·rcases bG hb with ⟨j,u,rfl,e⟩ | ⟨y,u,rfl,e⟩
   ·exact nomatch e
   ·injection e with e1 _;rw [e1]
 byValue:=fun k v h=>by
  rcases bG h with ⟨i,t,rfl,rfl⟩ | ⟨x,t,rfl,rfl⟩ <;> rfl
 pyHash:=fun hv h=>by
  rcases bG hv with ⟨i,t,rfl,rfl⟩ | ⟨x,t,rfl,rfl⟩
  ·exact wpAny_pyHash_int h
  ·exact wpAny_pyHash_str h
 eqBool:=fun hu hv h=>by
  rcases bG hu with ⟨i,t,rfl,rfl⟩ | ⟨x,t,rfl,rfl⟩
  ·rcases bG hv with ⟨j,u,rfl,rfl⟩ | ⟨y,u,rfl,rfl⟩
   ·rw [bQ2] at h;exact wpAny_eqBool_int h
   ·rw [bS5] at h;exact SeqAt.EqAt.int_str i t y u _ _ _ _ h
  ·rcases bG hv with ⟨j,u,rfl,rfl⟩ | ⟨y,u,rfl,rfl⟩
   ·rw [bW1] at h;exact SeqAt.EqAt.str_int x t j u _ _ _ _ h
   ·rw [bV7] at h;exact wpAny_eqBool_str h
 «strs» :=fun k x t v h=>by
  rcases bG h with ⟨i,u,rfl,e⟩ | ⟨y,u,rfl,e⟩
  ·exact nomatch e
  ·injection e with e1 _
   subst e1
   cases v <;> rfl
theorem yT (prog:Program) (w:World) (i:Int) (t:Tok):(bL prog w).is (.inl i) (.int i t)=true:=aP6 i t
theorem aA7 (prog:Program) (w:World) (x:Str) (t:Tok):(bL prog w).is (.inr x) (.str x t)=true:=aO1 x t
inductive V where
 |non | bl (b:Bool) | int (i:Int) | str (x:Str) | byt (b:Array UInt8) | flt (b:UInt64) | ref (a:Addr) | ty (n:String)
 deriving DecidableEq
def aX:V->Value->Prop
 |.non,u=>u=Value.none
 |.bl b,u=>u=Value.bool b
 |.int i,u=>∃ t,u=Value.int i t
 |.str x,u=>∃ t,u=Value.str x t
 |.byt b,u=>∃ t,u=Value.bytes b t
 |.flt b,u=>∃ t,u=Value.float b t
 |.ref a,u=>u=Value.ref a
 |.ty n,u=>u=Value.type n
abbrev bB:List V->List Value->Prop:=Paired aX
theorem bB.length {xs:List V}{us:List Value}(r:bB xs us):xs.length=us.length:=gj r
theorem bB.get:∀ {xs:List V}{us:List Value}{i:Nat}{x:V},bB xs us->xs[i]?=some x->∃ u,us[i]?=some u/\aX x u
 |_,_,_,_,.nil,e=>by simp at e
 |_,_,0,_,.cons r _,e=>by simp at e;subst e;exact ⟨_,rfl,r⟩
 |_,_,i+1,x,.cons _ t,e=>by
  obtain ⟨u,h1,h2⟩:=bB.get (i:=i) (x:=x) t (by simpa using e)
  exact ⟨u,by simpa using h1,h2⟩
theorem bB.set {x:V}{u:Value}(r:aX x u):∀ {xs:List V}{us:List Value}(i:Nat),bB xs us->bB (xs.set i x) (us.set i u)
 |_,_,_,.nil=> .nil
 |_,_,0,.cons _ t=> .cons r t
 |_,_,i+1,.cons q t=> .cons q (bB.set r i t)
theorem bB.append {xs ys:List V}{us ws:List Value}(p:bB xs us) (q:bB ys ws):bB (xs++ys) (us++ws):=by
 induction p with
 |nil=>exact q
 |cons r t ih=>exact .cons r ih
theorem bB.take:∀ {xs:List V}{us:List Value}(n:Nat),bB xs us->bB (xs.take n) (us.take n)
 |_,_,0,_=> .nil
 |_,_,_+1,.nil=> .nil
 |_,_,n+1,.cons r t=> .cons r (bB.take n t)
theorem bB.drop:∀ {xs:List V}{us:List Value}(n:Nat),bB xs us->bB (xs.drop n) (us.drop n)
 |_,_,0,r=>r
 |_,_,_+1,.nil=> .nil
 |_,_,n+1,.cons _ t=>bB.drop n t
def hE:Option V->Option Value->Prop
 |some v,some u=>aX v u
 |none,none=>True
 |_,_=>False
def KV {κ: Type}:List (κ×V)->List (κ×Value)->Prop:=Paired fun (p:κ×V) (q:κ×Value)=>p.1=q.1/\aX p.2 q.2
def kV:Key->V
 |.inl i=> .int i
 |.inr x=> .str x
inductive HO where
 |lst (xs:List V)
 |tup (xs:List V)
 |dK (kvs:List (Key×V)) | dT (kvs:List (List Key×V))
 |set (S:Int->Bool) (n:Nat)
 |ins (C dx:Addr) (fs:List (Str×V))
 |own (x:Addr)
 |xd (fs:List (Str×V))
 |met (f x:Addr)
 |rng (lo hi:Int)
 |frz (o:Obj) (u:HO)
 |tbl (ps:Array Value)
 |ext (φ: Heap->Prop)
abbrev Hp:=Addr->Option HO
def aJ (H:Hp) (a:Addr) (o:HO):Hp:=fun b=>if b=a then some o else H b
theorem aB {H:Hp}{a:Addr}{o:HO}:aJ H a o a=some o:=by unfold aJ;rw [bh rfl]
theorem aE {H:Hp}{a b:Addr}{o:HO}(h:b≠a):aJ H a o b=H b:=by unfold aJ;rw [ap h]
theorem xJ {H:Hp}{a:Addr}{o u:HO}:aJ (aJ H a o) a u=aJ H a u:=by
 funext b;unfold aJ;split <;> rfl
theorem bN {H:Hp}{a b:Addr}{o u:HO}(h:H a=some o) (h':H b=some u) (d:o≠u):a≠b:=by
 intro e;subst e;rw [h] at h';exact d (dm h')
theorem aF {H:Hp}{a b:Addr}{o:HO}(h:H a=some o) (h':H b=none):a≠b:=by
 intro e;subst e;rw [h] at h';cases h'
def nF (h:Heap) (a:Addr) (its:Array Value):Prop:=∃ o,h.get? a=some o/\o.cls= .type "tuple"/\∃ n,o.data= .seq its n/\o.dict=none
theorem nF.is {h:Heap}{a:Addr}{its:Array Value}(x:nF h a its):IsTup h a its:=by obtain ⟨o,e,c,n,d,_⟩:=x;exact ⟨o,e,c,n,d⟩
theorem nF.new (h:Heap) (its:Array Value):nF (h.push { cls:= .type "tuple",data:= .seq its }) h.objs.size its:=⟨_,aq _ rfl,rfl,_,rfl,rfl⟩
section
variable (P:Program) (w:World)
def bO (H:Hp) (h:Heap) (a:Addr):HO->Prop
 |.lst xs=>xs.length<=sizeLine/\∃ (its:List Value) (n:Nat),bB xs its/\h.get? a=some { cls:= .type "list",data:= .seq its.toArray n }
 |.tup xs=>xs.length<=sizeLine/\∃ its:List Value,bB xs its/\nF h a its.toArray
 |.dK kvs=>kvs.length<=sizeLine/\(a == sysModules)=false/\∃ vs,KV kvs vs/\h.DictOf (bL P w) a vs
 |.dT kvs=>kvs.length<=sizeLine/\(a == sysModules)=false/\∃ xs:List (List Key×Addr×Value),
   Paired (fun (p:List Key×V) (q:List Key×Addr×Value)=>p.1=q.1/\H q.2.1=some (.tup (p.1.map kV))/\aX p.2 q.2.2) kvs xs /\
   ∃ o es ep,h.get? a=some o/\o.ExactDict/\o.data= .dict es ep/\es.toList=xs.map (entryOfKey (tupleKind (bL P w)))/\(xs.map (·.1)).Nodup
 |.set S n=>h.SetOf (intKind P w) a S n
 |.ins C dx fs=>H dx=some (.own a)/\fs.length<=1000/\dx≠a/\h.get? a=some (PySem.W.instObj C dx) /\
   ∃ mA,h.Ns1 dx mA/\(∀ f,hE (fs.lookup f) (mA f))/\PySem.Within mA (fs.map (·.1))
 |.own _=>∃ o,h.get? a=some o
 |.xd fs=>∃ mA,h.Ns1 a mA/\∀ f,hE (fs.lookup f) (mA f)
 |.rng lo hi=>∃ t u v,h.get? a=some { cls:= .type "range",data:= .fields #[.int lo t,.int hi u,.int 1 v] }
 |.frz o u=>h.get? a=some o/\bO H h a u
 |.tbl ps=>h.get? a=some { cls:= .none,data:= .fields ps }
 |.met f x=>h.get? a=some (PySem.W.methodObj (.ref f) (.ref x))
 |.ext φ=>φ h/\(∃ o,h.get? a=some o)/\∀ h1 h2:Heap,φ h1->(∀ o,h1.get? a=some o->h2.get? a=some o)->φ h2
def lX (H:Hp) (h:Heap):Prop:=∀ a o,H a=some o->bO P w H h a o
end
section
variable {P:Program}{w:World}{H H':Hp}{h h':Heap}{a:Addr}{o:HO}
theorem bO.lt (x:bO P w H h a o):a < h.objs.size:=by
 cases o with
 |lst xs=>obtain ⟨_,_,_,_,e⟩:=x;exact bi e
 |tup xs=>obtain ⟨_,_,_,p⟩:=x;exact p.is.lt
 |dK kvs=>obtain ⟨_,_,_,_,o,_,_,e,_⟩:=x;exact bi e
 |dT kvs=>obtain ⟨_,_,_,_,o,_,_,e,_⟩:=x;exact bi e
 |set S n=>obtain ⟨o,_,_,_,e,_⟩:=x;exact bi e
 |ins C dx fs=>obtain ⟨_,_,_,e,_⟩:=x;exact bi e
 |own y=>obtain ⟨_,e⟩:=x;exact bi e
 |xd fs=>obtain ⟨_,⟨_,_,_,e,_⟩,_⟩:=x;exact bi e
 |rng lo hi=>obtain ⟨_,_,_,e⟩:=x;exact bi e
 |frz ob u=>obtain ⟨e,_⟩:=x;exact bi e
 |tbl ps=>exact bi (show h.get? a=some _ from x)
 |met f y=>exact bi (show h.get? a=some _ from x)
 |ext φ=>obtain ⟨_,⟨_,e⟩,_⟩:=x;exact bi e
theorem Paired.mapP {α β: Type}{F G:α->β->Prop}{l₁:List α}{l₂:List β}(h:Paired F l₁ l₂) (f:∀ a b,F a b->G a b):Paired G l₁ l₂:=by
 induction h with
 |nil=>exact .nil
 |cons r t ih=>exact .cons (f _ _ r) ih
theorem bO.stay (x:bO P w H h a o) (k:∀ b u,(b=a\/H b=some (.own a))->h.get? b=some u->h'.get? b=some u)
  (ho:∀ b,H b=some (.own a)->H' b=some (.own a)) (ht:∀ b xs,H b=some (.tup xs)->H' b=some (.tup xs)):bO P w H' h' a o:=by
 induction o with
 |lst xs=>obtain ⟨z,its,n,r,e⟩:=x;exact ⟨z,its,n,r,k _ _ (.inl rfl) e⟩
 |tup xs=>obtain ⟨z,its,r,ob,e,c⟩:=x;exact ⟨z,its,r,ob,k _ _ (.inl rfl) e,c⟩
 |dK kvs=>obtain ⟨z,y,vs,r,ob,es,ep,e,c⟩:=x;exact ⟨z,y,vs,r,ob,es,ep,k _ _ (.inl rfl) e,c⟩
 |dT kvs =>
  obtain ⟨z,y,xs,r,ob,es,ep,e,c⟩:=x
  exact ⟨z,y,xs,Paired.mapP r fun p q z=>⟨z.1,ht _ _ z.2.1,z.2.2⟩,ob,es,ep,k _ _ (.inl rfl) e,c⟩
 |set S n=>obtain ⟨ob,es,ep,t,e,c⟩:=x;exact ⟨ob,es,ep,t,k _ _ (.inl rfl) e,c⟩
 |ins C dx fs =>
  obtain ⟨d,z,ne,e,mA,⟨od,es,ep,e2,c⟩,r⟩:=x
  exact ⟨ho _ d,z,ne,k _ _ (.inl rfl) e,mA,⟨od,es,ep,k _ _ (.inr d) e2,c⟩,r⟩
 |own y=>obtain ⟨ob,e⟩:=x;exact ⟨ob,k _ _ (.inl rfl) e⟩
 |xd fs=>obtain ⟨mA,⟨od,es,ep,e,c⟩,r⟩:=x;exact ⟨mA,⟨od,es,ep,k _ _ (.inl rfl) e,c⟩,r⟩
 |rng lo hi=>obtain ⟨t,u,v,e⟩:=x;exact ⟨t,u,v,k _ _ (.inl rfl) e⟩
 |frz ob u ih=>obtain ⟨e,q⟩:=x;exact ⟨k _ _ (.inl rfl) e,ih q⟩
 |tbl ps =>
  have e:h.get? a=some { cls:= .none,data:= .fields ps }:=x
  show h'.get? a=some { cls:= .none,data:= .fields ps }
  exact k a _ (.inl rfl) e
 |met f y =>
  have e:h.get? a=some (PySem.W.methodObj (.ref f) (.ref y)):=x
  show h'.get? a=some (PySem.W.methodObj (.ref f) (.ref y))
  exact k a _ (.inl rfl) e
 |ext φ=>obtain ⟨p,⟨o,e⟩,st⟩:=x;exact ⟨st _ _ p fun o q=>k _ _ (.inl rfl) q,⟨o,k _ _ (.inl rfl) e⟩,st⟩
theorem lX.lt (x:lX P w H h) (e:H a=some o):a < h.objs.size:=(x a o e).lt
theorem lX.fresh (x:lX P w H h) (e:h.objs.size<=a):H a=none:=by
 cases q:H a with
 |none=>rfl
 |some u=>exact absurd (cr (x.lt q) e) (ff _)
theorem lX.kept (x:lX P w H h) (k:∀ b u,h.get? b=some u->h'.get? b=some u):lX P w H h':=fun a o e =>
 (x a o e).stay (fun b u _ q=>k b u q) (fun _ q=>q) fun _ _ q=>q
theorem lX.laid (x:lX P w H h) (k:∀ b u,h.get? b=some u->h'.get? b=some u) (hp:h.objs.size<=a) (new:bO P w (aJ H a o) h' a o):lX P w (aJ H a o) h':=fun b u e=>by
 have hn:=x.fresh hp
 by_cases hb:b=a
 ·subst hb;rw [aB] at e;cases e;exact new
 ·rw [aE hb] at e
  exact (x b u e).stay (fun c v _ q=>k c v q) (fun c q=>by rw [aE (aF q hn)];exact q) fun c xs q=>by rw [aE (aF q hn)];exact q
end
def Rd (H:Hp) (a:Addr) (u:HO):Prop:=H a=some u\/∃ o,H a=some (.frz o u)
theorem Rd.ok {P:Program}{w:World}{H:Hp}{h:Heap}{a:Addr}{u:HO}(r:Rd H a u) (x:lX P w H h):bO P w H h a u:=by
 rcases r with r | ⟨o,r⟩
 ·exact x a u r
 ·obtain ⟨_,q⟩:=x a _ r
  exact q
def Mut:Option HO->Prop
 |some (.lst _)=>True
 |some (.dK _)=>True
 |some (.dT _)=>True
 |some (.set _ _)=>True
 |some (.ins _ _ _)=>True
 |some (.ext _)=>True
 |_=>False
section
variable {P:Program}{w:World}{H:Hp}{h h':Heap}{x e:Addr}{o':HO}
theorem lX.write (ok:lX P w H h) (mu:Mut (H x)) (he:e=x\/H e=some (.own x)) (k:∀ b u,b≠e->h.get? b=some u->h'.get? b=some u) (heo:∃ u,h'.get? e=some u)
  (new:bO P w (aJ H x o') h' x o'):lX P w (aJ H x o') h':=fun b u q=>by
 have nown:∀ c y,H c=some (.own y)->c≠x:=fun c y r z=>by subst z;rw [r] at mu;exact mu
 have ntup:∀ c xs,H c=some (.tup xs)->c≠x:=fun c xs r z=>by subst z;rw [r] at mu;exact mu
 by_cases hb:b=x
 ·subst hb;rw [aB] at q;cases q;exact new
 ·rw [aE hb] at q
  by_cases hbe:b=e
  ·have q':H b=some (.own x):=by
    rcases he with z | z
    ·exact absurd (hbe.trans z) hb
    ·rw [hbe];exact z
   rw [q] at q';cases q'
   obtain ⟨v,hv⟩:=heo
   exact ⟨v,by rw [hbe];exact hv⟩
  ·refine (ok b u q).stay (fun c v hc r=>k c v ?_ r) (fun c r=>by rw [aE (nown c b r)];exact r) fun c xs r=>by rw [aE (ntup c xs r)];exact r
   rcases hc with rfl | hc
   ·exact hbe
   ·rintro rfl
    rcases he with z | z
    ·exact nown c b hc z
    ·rw [hc] at z;cases z;exact hb rfl
end
structure Un (fs ex:List Addr) (H H':Hp) (h h':Heap):Prop where
 keep:∀ b o,h.get? b=some o->H b=none->b∉fs->b∉ex->h'.get? b=some o
 slot:∀ b o,h.get? b=some o->H b=none->b∈fs->b∉ex->∃ sl,h'.get? b=some { o with slots:=sl }
 free:∀ b o,h.get? b=some o->H b=none->b∉ex->H' b=none
 there:∀ b o,h.get? b=some o->b∉ex->∃ o',h'.get? b=some o'
 tups:∀ b xs,H b=some (.tup xs)->H' b=some (.tup xs)
 frzs:∀ b o u,H b=some (.frz o u)->H' b=some (.frz o u)
 tbls:∀ b ps,H b=some (.tbl ps)->∃ more,H' b=some (.tbl (ps++more))
section
variable {fs fs' ex ex':List Addr}{H H1 H2:Hp}{h h1 h2 h':Heap}{a x e:Addr}{o:HO}
theorem Un.any (u:Un fs ex H H1 h h1) {b:Addr}{ob:Obj}(q:h.get? b=some ob) (n:H b=none) (hx:b∉ex):∃ sl,h1.get? b=some { ob with slots:=sl }:=by
 by_cases hb:b∈fs
 ·exact u.slot b ob q n hb hx
 ·exact ⟨ob.slots,u.keep b ob q n hb hx⟩
theorem Un.kept (k:∀ b u,h.get? b=some u->h'.get? b=some u):Un fs ex H H h h' :=
 ⟨fun b ob q _ _ _=>k b ob q,fun b ob q _ _ _=>⟨ob.slots,k b ob q⟩,fun _ _ _ n _=>n,fun b ob q _=>⟨ob,k b ob q⟩,fun _ _ q=>q,fun _ _ _ q=>q,fun _ ps q=>⟨#[],by rw [q];simp⟩⟩
theorem Un.refl:Un fs ex H H h h:=Un.kept fun _ _ q=>q
theorem Un.laid (k:∀ b u,h.get? b=some u->h'.get? b=some u) (hp:h.objs.size<=a) (hn:H a=none):Un fs ex H (aJ H a o) h h' where
 keep:=fun b u q _ _ _=>k b u q
 slot:=fun b u q _ _ _=>⟨u.slots,k b u q⟩
 free:=fun b u q n _=>by rw [aE (cw (cr (bi q) hp))];exact n
 there:=fun b u q _=>⟨u,k b u q⟩
 tups:=fun b xs q=>by rw [aE (aF q hn)];exact q
 frzs:=fun b u xs q=>by rw [aE (aF q hn)];exact q
 tbls:=fun b ps q=>⟨#[],by rw [aE (aF q hn),q];simp⟩
theorem Un.write (mu:Mut (H x)) (he:e=x\/H e=some (.own x)) (k:∀ b u,b≠e->h.get? b=some u->h'.get? b=some u) (heo:∃ u,h'.get? e=some u):Un fs ex H (aJ H x o) h h':=by
 have hx:∀ b,H b=none->b≠x:=fun b n z=>by subst z;rw [n] at mu;exact mu
 have hb:∀ b,H b=none->b≠e:=fun b n z=>by
  subst z
  rcases he with r | r
  ·exact hx b n r
  ·rw [n] at r;cases r
 have hm:∀ b u,H b=some u->¬ Mut (some u)->b≠x:=fun b u q nm z=>by subst z;rw [q] at mu;exact nm mu
 refine ⟨fun b u q n _ _=>k b u (hb b n) q,fun b u q n _ _=>⟨u.slots,k b u (hb b n) q⟩,fun b u q n _=>by rw [aE (hx b n)];exact n,fun b u q _=>?_,
  fun b xs q=>by rw [aE (hm b _ q fun z=>z)];exact q,fun b u xs q=>by rw [aE (hm b _ q fun z=>z)];exact q,fun b ps q=>⟨#[],by rw [aE (hm b _ q fun z=>z),q];simp⟩⟩
 by_cases hbe:b=e
 ·subst hbe;exact heo
 ·exact ⟨u,k b u hbe q⟩
end
def trk (h:Heap) (H:Hp):List Addr:=(List.range h.objs.size).filter fun a=>(H a).isSome
def xX (h:Heap) (H:Hp):Heap:=PySem.W.hideAll h (trk h H)
theorem aS5 (h:Heap) (H:Hp):(xX h H).objs.size=h.objs.size:=PySem.W.hideAll_size _ _
theorem bB1 {h:Heap}{H:Hp}{b:Addr}{o:Obj}(e:h.get? b=some o) (n:H b=none):(xX h H).get? b=some o :=
 PySem.W.hideAll_get _ e fun hm=>by
  have q:(H b).isSome=true:=(br.mp hm).2
  rw [n] at q;simp at q
theorem bJ3 {h:Heap}{H:Hp}{b:Addr}{o:Obj}(e:(xX h H).get? b=some o):h.get? b=some o/\H b=none:=by
 have e':h.get? b=some o:=PySem.W.of_hideAll (trk h H) e
 exists e',?_
 cases q:H b with
 |none=>rfl
 |some x =>
  have hm:b∈trk h H:=br.mpr ⟨sx.mpr (bi e'),by simp [q]⟩
  have z:(xX h H).get? b=none:=PySem.W.hideAll_none (trk h H) hm
  rw [z] at e;cases e
def bK9 (g h:Heap) (L:Addr):List (Addr×Obj):=(List.range h.objs.size).filterMap fun a=>if a=L\/(g.get? a).isSome=true then none else (h.get? a).map fun o=>(a,o)
def rest (g h:Heap) (L d:Addr):List (Addr×Obj):=(bK9 g h L).filter fun p=>decide (p.1≠d)
structure Mod (K:PySem.W.Frag) (mg:Str->Option Value) (base:Heap):Prop where
 kin:K.In base
 glob:base.Ns mainGlobals mg
 blt:∃ mb,base.Ns builtinsNs mb/\∀ x:Str,x≠"__name__"->mb x=bootBuiltins x
 nolimit:base.NoLimit
structure Cx where
 prog:Program
 w:World
 K:PySem.W.Frag
 mg:Str->Option Value
 base:Heap
 A:Around
 N:List Str
 s₀:Shared
 H₀:Hp
 env:Env
 outer:List Env
 stack:List Env
 ex:List Addr
 fn:Str->Bool
 calm:Bool
 pn:List (Addr×Obj)
 xe:Value->Shared->Prop
def frs (l:List Env):List Addr:=l.filterMap (·.frame)
abbrev Cx.fs (X:Cx):List Addr:=frs X.outer
def Vis (sc:Scope) (x:Str):Prop:=sc.names.lookup x=some .local\/sc.names.lookup x=some .cell\/sc.names.lookup x=some .free
def Loc (sc:Scope) (x:Str):Prop:=sc.names.lookup x=some .local\/sc.names.lookup x=some .cell
def cK1 (env:Env) (h:Heap) (m:Str->Option Value) (x:Str) (u:Value):Prop :=
 (env.kindOf x=some .local/\m x=some u)\/((env.kindOf x=some .cell\/env.kindOf x=some .free)/\∃ c,env.cells.lookup x=some c/\h.IsCell c (some u))
structure Cx.Ok (X:Cx):Prop where
 mod:Mod X.K X.mg X.base
 kind:X.env.scope.kind= .function
 glob:X.env.globals=mainGlobals
 blt:X.env.builtins=builtinsNs
 above:X.s₀.heap.objs.size<=X.env.locals
 inj:∀ x y c,X.env.cells.lookup x=some c->X.env.cells.lookup y=some c->x=y
 has:∀ x,(X.env.kindOf x=some .cell\/X.env.kindOf x=some .free)->∃ c,X.env.cells.lookup x=some c
 cab:∀ x c,X.fn x=true->X.env.cells.lookup x=some c->X.s₀.heap.objs.size<=c
 hd:X.calm=true->X.A.handled=none
 frames:X.A.frames=some X.stack
 stk:X.stack=X.outer\/(X.stack=X.env :: X.outer/\X.env.frame=some X.env.locals)
 exf:∀ b∈X.ex,b≠X.env.locals/\∀ x c,X.env.cells.lookup x=some c->c≠b
 bs:∀ b o,X.base.get? b=some o->X.s₀.heap.get? b=some o/\X.H₀ b=none
 bsz:X.base.objs.size<=X.s₀.heap.objs.size
 noex:∀ b o,X.base.get? b=some o->b∉X.ex
 exfs:∀ b∈X.ex,b∉X.fs
 funs:X.s₀.heap.FunFrames X.base X.outer
 frf:∀ b∈X.fs,X.H₀ b=none
structure aQ (X:Cx) (pins:List (Addr×Obj)) (σ: List (Option V)) (H:Hp) (s:Shared):Prop where
 ok:X.Ok
 os:s.os=X.s₀.os
 bare:AllBare s.gens
 base:Un X.fs X.ex X.H₀ H X.s₀.heap s.heap
 loc:∃ m,s.heap.Ns X.env.locals m/\∀ (i:Nat) (x:Str) (v:V),X.N[i]?=some x->σ[i]?=some (some v)->Vis X.env.scope x->∃ u,aX v u/\cK1 X.env s.heap m x u
 cell:∀ x c,X.env.cells.lookup x=some c->∃ v,s.heap.IsCell c v
 free:H X.env.locals=none
 freeC:∀ x c,X.env.cells.lookup x=some c->H c=none
 pin:∀ p∈X.pn++pins,s.heap.get? p.1=some p.2/\H p.1=none/\p.1≠X.env.locals/\p.1∉X.fs/\∀ v,p.2.data≠ .cell v
 hok:lX X.prog X.w H s.heap
 len:σ.length=X.N.length
section
variable {X:Cx}{pins:List (Addr×Obj)}{σ: List (Option V)}{H H':Hp}{s:Shared}{h':Heap}
theorem Cx.Ok.nofr (ok:X.Ok) {b:Addr}{o:Obj}(e:X.base.get? b=some o):b∉X.fs:=fun hb=>by
 have:=(ok.funs.mem hb).1
 rw [e] at this;cases this
theorem aQ.bs (I:aQ X pins σ H s):∀ b o,X.base.get? b=some o->s.heap.get? b=some o/\H b=none:=fun b o e =>
 ⟨I.base.keep b o (I.ok.bs b o e).1 (I.ok.bs b o e).2 (I.ok.nofr e) (I.ok.noex b o e),I.base.free b o (I.ok.bs b o e).1 (I.ok.bs b o e).2 (I.ok.noex b o e)⟩
theorem aQ.bk (I:aQ X pins σ H s):∀ b o,X.base.get? b=some o->s.heap.get? b=some o:=fun b o e=>(I.bs b o e).1
theorem aQ.mod (I:aQ X pins σ H s):Mod X.K X.mg X.base:=I.ok.mod
theorem aQ.kIn (I:aQ X pins σ H s):X.K.In s.heap:=I.ok.mod.kin.keeps I.bk
theorem aQ.lt (I:aQ X pins σ H s):X.env.locals < s.heap.objs.size:=by obtain ⟨_,hn,_⟩:=I.loc;exact hn.lt
theorem aQ.sz (I:aQ X pins σ H s):X.s₀.heap.objs.size<=s.heap.objs.size:=cy I.ok.above (iz I.lt)
theorem aQ.nofs (I:aQ X pins σ H s) {a:Addr}(h:s.heap.objs.size<=a):a∉X.fs:=fun hb=>by
 obtain ⟨_,o,ho,_⟩:=I.ok.funs.mem hb
 exact absurd (cr (bi ho) (cy I.sz h)) (ff _)
theorem aQ.cne (I:aQ X pins σ H s):∀ x c,X.env.cells.lookup x=some c->c≠X.env.locals:=fun x c e z=>by
 obtain ⟨v,o,ho,hd⟩:=I.cell x c e
 obtain ⟨m,⟨o',es,ep,ho',hd',_⟩,_⟩:=I.loc
 rw [z,ho'] at ho;cases ho;rw [hd'] at hd;cases hd
theorem aQ.funs (I:aQ X pins σ H s):s.heap.FunFrames X.base X.outer:=by
 have all:∀ (l:List Env),(∀ b∈frs l,b∈X.fs)->X.s₀.heap.FunFrames X.base l->s.heap.FunFrames X.base l:=by
  intro l
  induction l with
  |nil=>intro _ _;trivial
  |cons env r ih =>
   intro hs hl
   obtain ⟨hk,⟨L,o,hf,hn,ho,hd⟩,hr⟩:=hl
   have hL:L∈X.fs:=hs L (by unfold frs;rw [wf,hf];exact bj)
   obtain ⟨sl,e⟩:=I.base.slot L o ho (I.ok.frf L hL) hL fun z=>I.ok.exfs L z hL
   exact ⟨hk,⟨L,_,hf,hn,e,hd⟩,ih (fun b hb=>hs b (by unfold frs;rw [wf,hf];exact ba _ hb)) hr⟩
 exact all X.outer (fun _ hb=>hb) I.ok.funs
theorem aQ.stack (I:aQ X pins σ H s):s.heap.FunFrames X.base X.stack:=by
 rcases I.ok.stk with e | ⟨e,hf⟩
 ·rw [e];exact I.funs
 ·rw [e]
  obtain ⟨m,hn,_⟩:=I.loc
  refine .cons (by rw [I.ok.kind];decide) hf hn ?_ I.funs
  exact Heap.get?_none_of_le (cy I.ok.bsz I.ok.above)
theorem aQ.stkSub (I:aQ X pins σ H s):∀ b∈frs X.stack,b∈X.env.locals :: X.fs:=fun b hb=>by
 rcases I.ok.stk with e | ⟨e,hf⟩
 ·rw [e] at hb;exact ba _ hb
 ·rw [e] at hb
  unfold frs at hb
  rw [wf,hf] at hb
  exact hb
theorem aQ.stkFree (I:aQ X pins σ H s):∀ b∈frs X.stack,H b=none:=fun b hb=>by
 rcases bo.mp (I.stkSub b hb) with e | hb
 ·rw [e];exact I.free
 ·obtain ⟨_,o,ho,_⟩:=I.ok.funs.mem hb
  exact I.base.free b o ho (I.ok.frf b hb) fun z=>I.ok.exfs b z hb
theorem aQ.step {g':Array GenState}{t':Nat}{d':Drawn}{ch:List Addr}(I:aQ X pins σ H s)
  (hch:∀ b∈ch,(b∈X.ex\/X.s₀.heap.objs.size<=b)/\b≠X.env.locals/\(∀ x c,X.env.cells.lookup x=some c->c≠b)/\∀ p∈X.pn++pins,p.1≠b)
  (keep:∀ b o,b≠X.env.locals->b∉X.fs->b∉ch->s.heap.get? b=some o->H b=none->h'.get? b=some o)
  (slot:∀ b o,b≠X.env.locals->b∈X.fs->b∉ch->s.heap.get? b=some o->H b=none->∃ sl,h'.get? b=some { o with slots:=sl }) (free:∀ b o,b∉ch->s.heap.get? b=some o->H b=none->H' b=none)
  (there:∀ b o,b∉ch->s.heap.get? b=some o->∃ o',h'.get? b=some o')
  (tups:∀ b xs,H b=some (.tup xs)->H' b=some (.tup xs)) (frzs:∀ b o u,H b=some (.frz o u)->H' b=some (.frz o u)) (tbls:∀ b ps,H b=some (.tbl ps)->∃ more,H' b=some (.tbl (ps++more)))
  (ns:∀ m,s.heap.Ns X.env.locals m->h'.Ns X.env.locals m) (hok:lX X.prog X.w H' h') (hg:AllBare g') :
  aQ X pins σ H' { s with heap:=h',gens:=g',drawn:=d',toks:=t' }:=by
 have neL:∀ b o,X.s₀.heap.get? b=some o->b≠X.env.locals:=fun b o e=>cw (cr (bi e) I.ok.above)
 have neC:∀ b o,X.s₀.heap.get? b=some o->b∉X.ex->b∉ch:=fun b o e hx hb=>by
  rcases (hch b hb).1 with z | z
  ·exact hx z
  ·exact absurd (cr (bi e) z) (ff _)
 have cellK:∀ x c,X.env.cells.lookup x=some c->∀ v,s.heap.IsCell c v->h'.IsCell c v:=fun x c e v ⟨o,ho,hd⟩=>by
  have nch:c∉ch:=fun z=>(hch c z).2.2.1 x c e rfl
  by_cases hc:c∈X.fs
  ·obtain ⟨sl,q⟩:=slot c o (I.cne x c e) hc nch ho (I.freeC x c e)
   exact ⟨_,q,hd⟩
  ·exact ⟨o,keep c o (I.cne x c e) hc nch ho (I.freeC x c e),hd⟩
 exists I.ok,I.os,hg,⟨fun b o e n hb hx=>?_,fun b o e n hb hx=>?_,fun b o e n hx=>?_,fun b o e hx=>?_,fun b xs e=>tups b xs (I.base.tups b xs e),fun b o xs e=>frzs b o xs (I.base.frzs b o xs e),fun b ps e=>?_⟩,?_,fun x c e=>?_,?_,fun x c e=>?_,fun p hp=>?_,hok,I.len
 ·exact keep b o (neL b o e) hb (neC b o e hx) (I.base.keep b o e n hb hx) (I.base.free b o e n hx)
 ·obtain ⟨sl,e1⟩:=I.base.slot b o e n hb hx
  obtain ⟨sl',e2⟩:=slot b _ (neL b o e) hb (neC b o e hx) e1 (I.base.free b o e n hx)
  exact ⟨sl',e2⟩
 ·obtain ⟨o',e1⟩:=I.base.there b o e hx
  exact free b o' (neC b o e hx) e1 (I.base.free b o e n hx)
 ·obtain ⟨o',e1⟩:=I.base.there b o e hx
  exact there b o' (neC b o e hx) e1
 ·obtain ⟨m1,e1⟩:=I.base.tbls b ps e
  obtain ⟨m2,e2⟩:=tbls b _ e1
  exact ⟨m1++m2,by rw [e2,Array.append_assoc]⟩
 ·obtain ⟨m,hn,hl⟩:=I.loc
  exists m,ns m hn,fun i x v e1 e2 e3=>?_
  obtain ⟨u,r,l⟩:=hl i x v e1 e2 e3
  exists u,r,?_
  rcases l with l | ⟨k,c,e,z⟩
  ·exact .inl l
  ·exact .inr ⟨k,c,e,cellK x c e _ z⟩
 ·obtain ⟨v,z⟩:=I.cell x c e
  exact ⟨v,cellK x c e v z⟩
 ·obtain ⟨m,⟨o,_,_,ho,_⟩,_⟩:=I.loc
  exact free _ o (fun z=>(hch _ z).2.1 rfl) ho I.free
 ·obtain ⟨v,o,ho,hd⟩:=I.cell x c e
  exact free c o (fun z=>(hch c z).2.2.1 x c e rfl) ho (I.freeC x c e)
 ·obtain ⟨e,n,ne,nf,d⟩:=I.pin p hp
  have nch:p.1∉ch:=fun z=>(hch p.1 z).2.2.2 p hp rfl
  exact ⟨keep p.1 p.2 ne nf nch e n,free p.1 p.2 nch e n,ne,nf,d⟩
theorem aQ.un {t':Nat}(I:aQ X pins σ H s) (u:Un X.fs [] H H' s.heap h') (hok:lX X.prog X.w H' h'):aQ X pins σ H' { s with heap:=h',toks:=t' }:=by
 obtain ⟨m,⟨o,es,ep,ho,r⟩,_⟩:=id I.loc
 obtain ⟨sl,hL⟩:=u.any ho I.free (by simp)
 exact I.step (g':=s.gens) (d':=s.drawn) (ch:=[]) (fun _ z=>nomatch z) (fun b o _ hb _ e n=>u.keep b o e n hb (by simp)) (fun b o _ hb _ e n=>u.slot b o e n hb (by simp)) (fun b o _ e n=>u.free b o e n (by simp)) (fun b o _ e=>u.there b o e (by simp)) u.tups u.frzs u.tbls (fun m' hm=>by
  obtain ⟨o',es',ep',ho',r'⟩:=hm
  rw [ho] at ho';cases ho'
  exact ⟨_,es',ep',hL,r'⟩) hok I.bare
theorem aQ.call {g':Array GenState}{t':Nat}{d':Drawn}{ch:List Addr}(I:aQ X pins σ H s) (u:Un (frs X.stack) ch H H' s.heap h') (hok:lX X.prog X.w H' h') (hg:AllBare g')
  (hch:∀ b∈ch,(b∈X.ex\/X.s₀.heap.objs.size<=b)/\b≠X.env.locals/\(∀ x c,X.env.cells.lookup x=some c->c≠b)/\∀ p∈X.pn++pins,p.1≠b) :
  aQ X pins σ H' { s with heap:=h',gens:=g',drawn:=d',toks:=t' }:=by
 obtain ⟨m,⟨o,es,ep,ho,r⟩,_⟩:=id I.loc
 obtain ⟨sl,hL⟩:=u.any ho I.free fun z=>(hch _ z).2.1 rfl
 exact I.step (ch:=ch) hch (fun b o hL hb hc e n=>u.keep b o e n (fun z=>(bo.mp (I.stkSub b z)).elim hL hb) hc) (fun b o _ _ hc e n=>u.any e n hc) (fun b o hc e n=>u.free b o e n hc) (fun b o hc e=>u.there b o e hc) u.tups u.frzs u.tbls (fun m' hm=>by
  obtain ⟨o',es',ep',ho',r'⟩:=hm
  rw [ho] at ho';cases ho'
  exact ⟨_,es',ep',hL,r'⟩) hok hg
theorem aQ.turned {t':Nat}{it:Addr}(I:aQ X pins σ H s) (k:∀ b o,b≠it->s.heap.get? b=some o->h'.get? b=some o) (hn:H it=none) (hL:it≠X.env.locals)
  (h1:it∈X.ex\/X.s₀.heap.objs.size<=it) (h2:∀ x c,X.env.cells.lookup x=some c->c≠it) (h3:∀ p∈X.pn++pins,p.1≠it):aQ X pins σ H { s with heap:=h',toks:=t' }:=by
 have nit:∀ b u,H b=some u->b≠it:=fun b u e z=>by rw [z,hn] at e;cases e
 refine I.step (g':=s.gens) (d':=s.drawn) (ch:=[it]) (fun b hb=>?_) (fun b o _ _ hc e _=>k b o (fun z=>hc (by simp [z])) e) (fun b o _ _ hc e _=>⟨o.slots,k b o (fun z=>hc (by simp [z])) e⟩) (fun _ _ _ _ n=>n)
  (fun b o hc e=>⟨o,k b o (fun z=>hc (by simp [z])) e⟩) (fun _ _ e=>e) (fun _ _ _ e=>e) (fun b ps e=>⟨#[],by rw [e];simp⟩) (fun m hm=>?_) (fun b u e=>?_) I.bare
 ·have e:b=it:=by simpa using hb
  subst e
  exact ⟨h1,hL,h2,h3⟩
 ·obtain ⟨o,es,ep,ho,r⟩:=hm
  exact ⟨o,es,ep,k _ o (Ne.symm hL) ho,r⟩
 ·refine (I.hok b u e).stay (fun c v hc q=>k c v ?_ q) (fun _ q=>q) fun _ _ q=>q
  rcases hc with z | z
  ·rw [z];exact nit b u e
  ·exact nit c _ z
theorem aQ.tok (I:aQ X pins σ H s) (t:Nat):aQ X pins σ H { s with toks:=t }:=I.un (h':=s.heap) (t':=t) Un.refl I.hok
theorem aQ.kept {t':Nat}(I:aQ X pins σ H s) (k:∀ b u,s.heap.get? b=some u->h'.get? b=some u):aQ X pins σ H { s with heap:=h',toks:=t' }:=I.un (Un.kept k) (I.hok.kept k)
theorem aQ.laid {a:Addr}{o:HO}{t':Nat}(I:aQ X pins σ H s) (k:∀ b u,s.heap.get? b=some u->h'.get? b=some u) (hp:s.heap.objs.size<=a) (new:bO X.prog X.w (aJ H a o) h' a o) :
  aQ X pins σ (aJ H a o) { s with heap:=h',toks:=t' }:=I.un (Un.laid k hp (I.hok.fresh hp)) (I.hok.laid k hp new)
theorem aQ.write {x e:Addr}{o:HO}{t':Nat}(I:aQ X pins σ H s) (mu:Mut (H x)) (he:e=x\/H e=some (.own x)) (k:∀ b u,b≠e->s.heap.get? b=some u->h'.get? b=some u) (heo:∃ u,h'.get? e=some u)
  (new:bO X.prog X.w (aJ H x o) h' x o):aQ X pins σ (aJ H x o) { s with heap:=h',toks:=t' }:=I.un (Un.write mu he k heo) (I.hok.write mu he k heo new)
theorem aQ.pins_of {pins':List (Addr×Obj)}(I:aQ X pins σ H s) (h:∀ p∈pins',s.heap.get? p.1=some p.2/\H p.1=none/\p.1≠X.env.locals/\p.1∉X.fs/\∀ v,p.2.data≠ .cell v):aQ X pins' σ H s :=
 ⟨I.ok,I.os,I.bare,I.base,I.loc,I.cell,I.free,I.freeC,fun p hp=>(cj.mp hp).elim (fun z=>I.pin p (fu _ z)) (h p),I.hok,I.len⟩
theorem zW {N:List Str}(hN:N.Nodup) {i j:Nat}{x:Str}(a:N[i]?=some x) (b:N[j]?=some x):i=j:=by
 obtain ⟨h1,e1⟩:=bw.mp a
 obtain ⟨h2,e2⟩:=bw.mp b
 exact (uf hN).mp (e1.trans e2.symm)
theorem wJ {M:Model}{A:Around}{E:Value->Shared->Prop}{i:Nat}{x:Str}{v:V}{u:Value}{Q:Unit->Shared->Prop}(I:aQ X pins σ H s) (hN:X.N.Nodup) (hi:X.N[i]?=some x) (hx:Loc X.env.scope x) (r:aX v u)
  (h:∀ s',aQ X pins (σ.set i (some v)) H s'->(∃ a,Heap.SameBut a s.heap s'.heap/\(a=X.env.locals\/X.env.cells.lookup x=some a))->Q () s') (hf:autoParam (X.fn x=true\/X.env.scope.names.lookup x=some .local) Rq2._auto_1):wpAny M A (storeName X.env x u) Q E s:=by
 obtain ⟨m,hn,hl⟩:=id I.loc
 have hcls:(X.env.scope.kind == .class || (X.env.scope.kind == .module && X.env.locals != X.env.globals))=false:=by rw [I.ok.kind];rfl
 have hiσ: i < σ.length:=by rw [I.len];exact (bw.mp hi).1
 have cne:=I.cne
 have tracked:∀ {a:Addr}{h':Heap},(∃ o,s.heap.get? a=some o/\H a=none)->Heap.SameBut a s.heap h'->lX X.prog X.w H h':=fun {a h'} ha hs b ob e=>by
  obtain ⟨_,_,hfree⟩:=ha
  refine (I.hok b ob e).stay (fun c w' hc q=>(hs.2 c ?_).trans q) (fun _ q=>q) fun _ _ q=>q
  rintro rfl
  rcases hc with rfl | hc
  ·rw [hfree] at e;cases e
  ·rw [hfree] at hc;cases hc
 rcases hx with hk | hk
 ·refine wpAny_storeName_local hk hn (fun h' hn' hs=>?_) hcls
  obtain ⟨oL,_,_,hoL,_⟩:=id hn
  refine h _ ⟨I.ok,I.os,I.bare,⟨fun b o e n hb hx=>?_,fun b o e n hb hx=>?_,I.base.free,fun b o e hx=>?_,I.base.tups,I.base.frzs,I.base.tbls⟩,⟨_,hn',fun j y v' e1 e2 e3=>?_⟩,fun y c e=>?_,I.free,I.freeC,fun p hp=>?_,tracked ⟨oL,hoL,I.free⟩ hs,by simpa using I.len⟩ ⟨_,hs,.inl rfl⟩
  ·exact (hs.2 b (cw (cr (bi e) I.ok.above))).trans (I.base.keep b o e n hb hx)
  ·obtain ⟨sl,e1⟩:=I.base.slot b o e n hb hx
   exact ⟨sl,(hs.2 b (cw (cr (bi e) I.ok.above))).trans e1⟩
  ·obtain ⟨o',e1⟩:=I.base.there b o e hx
   exact ⟨o',(hs.2 b (cw (cr (bi e) I.ok.above))).trans e1⟩
  ·by_cases hj:j=i
   ·subst hj
    rw [hi] at e1;cases e1
    rw [zb hiσ] at e2
    cases e2
    exact ⟨u,r,.inl ⟨hk,by simp⟩⟩
   ·rw [aAp (Ne.symm hj)] at e2
    obtain ⟨u',r',q⟩:=hl j y v' e1 e2 e3
    exists u',r',?_
    rcases q with ⟨k,e⟩ | ⟨k,c,e,z⟩
    ·refine .inl ⟨k,?_⟩
     have:y≠x:=fun e=>hj (zW hN e1 (e ▸ hi))
     simp [this,e]
    ·exact .inr ⟨k,c,e,z.sameBut hs (cne y c e)⟩
  ·obtain ⟨w',z⟩:=I.cell y c e
   exact ⟨w',z.sameBut hs (cne y c e)⟩
  ·obtain ⟨e,n,ne,nf,d⟩:=I.pin p hp
   exact ⟨(hs.2 p.1 ne).trans e,n,ne,nf,d⟩
 ·have hfn:X.fn x=true:=by
   rcases hf with z | z
   ·exact z
   ·rw [z] at hk;cases hk
  obtain ⟨c,hc⟩:=I.ok.has x (.inl hk)
  obtain ⟨w',z⟩:=I.cell x c hc
  refine wpAny_storeName_cell I.ok.kind hk hc z (fun h' hc' hs=>?_)
  obtain ⟨oc,hoc,hocd⟩:=id z
  refine h { s with heap:=h' } ⟨I.ok,I.os,I.bare,⟨fun b o e n hb hx=>?_,fun b o e n hb hx=>?_,I.base.free,fun b o e hx=>?_,I.base.tups,I.base.frzs,I.base.tbls⟩,⟨m,hn.sameBut hs (Ne.symm (cne x c hc)),fun j y v' e1 e2 e3=>?_⟩,fun y c' e=>?_,I.free,I.freeC,fun p hp=>?_,tracked ⟨oc,hoc,I.freeC x c hc⟩ hs,by simpa using I.len⟩ ⟨c,hs,.inr hc⟩
  ·exact (hs.2 b (cw (cr (bi e) (I.ok.cab x c hfn hc)))).trans (I.base.keep b o e n hb hx)
  ·obtain ⟨sl,e1⟩:=I.base.slot b o e n hb hx
   exact ⟨sl,(hs.2 b (cw (cr (bi e) (I.ok.cab x c hfn hc)))).trans e1⟩
  ·obtain ⟨o',e1⟩:=I.base.there b o e hx
   exact ⟨o',(hs.2 b (cw (cr (bi e) (I.ok.cab x c hfn hc)))).trans e1⟩
  ·by_cases hj:j=i
   ·subst hj
    rw [hi] at e1;cases e1
    rw [zb hiσ] at e2
    cases e2
    exact ⟨u,r,.inr ⟨.inl hk,c,hc,hc'⟩⟩
   ·rw [aAp (Ne.symm hj)] at e2
    obtain ⟨u',r',q⟩:=hl j y v' e1 e2 e3
    exists u',r',?_
    rcases q with q | ⟨k,c',e,z'⟩
    ·exact .inl q
    ·refine .inr ⟨k,c',e,z'.sameBut hs ?_⟩
     rintro rfl
     exact hj (zW hN e1 (I.ok.inj _ _ _ e hc ▸ hi))
  ·by_cases hcc:c'=c
   ·subst hcc;exact ⟨_,hc'⟩
   ·obtain ⟨w2,z2⟩:=I.cell y c' e
    exact ⟨w2,z2.sameBut hs hcc⟩
  ·obtain ⟨e,n,ne,nf,d⟩:=I.pin p hp
   exists (hs.2 p.1 ?_).trans e,n,ne,nf,d
   intro q
   rw [q,hoc] at e
   have q':oc=p.2:=dm e
   exact d w' (by rw [<- q'];exact hocd)
theorem lI {M:Model}{A:Around}{E:Value->Shared->Prop}{i:Nat}{x:Str}{v:V}{u:Value}{Q:Unit->Shared->Prop}(I:aQ X pins σ H s) (hN:X.N.Nodup) (hi:X.N[i]?=some x) (hx:Loc X.env.scope x) (r:aX v u)
  (h:∀ s',aQ X pins (σ.set i (some v)) H s'->Q () s') (hf:autoParam (X.fn x=true\/X.env.scope.names.lookup x=some .local) Rq2._auto_1):wpAny M A (storeName X.env x u) Q E s :=
 wJ I hN hi hx r (fun s' I' _=>h s' I') hf
theorem aQ.call' {s':Shared}{ch:List Addr}(I:aQ X pins σ H s) (ho:s'.os=s.os) (u:Un (frs X.stack) ch H H' s.heap s'.heap) (hok:lX X.prog X.w H' s'.heap) (hg:AllBare s'.gens)
  (hch:∀ b∈ch,(b∈X.ex\/X.s₀.heap.objs.size<=b)/\b≠X.env.locals/\(∀ x c,X.env.cells.lookup x=some c->c≠b)/\∀ p∈X.pn++pins,p.1≠b):aQ X pins σ H' s':=by
 obtain ⟨h',g',d',t',o'⟩:=s'
 have e:o'=s.os:=ho
 subst e
 exact I.call (g':=g') (t':=t') (d':=d') u hok hg hch
end
abbrev XK:=Value->Option Addr->Hp->Prop
abbrev St:=List (Option V)
abbrev VK:=V->Hp->Prop
abbrev TE:=St->Hp->VK->Prop
abbrev TT:=St->Hp->(Bool->Hp->Prop)->Prop
abbrev TA:=St->Hp->(List V->Hp->Prop)->Prop
structure uM where
 nx:St->Hp->Prop
 rt:VK
 bk:St->Hp->Prop:=fun _ _=>False
 ct:St->Hp->Prop:=fun _ _=>False
abbrev TS:=uM->St->Hp->Prop
def EP (X:Cx) (pins:List (Addr×Obj)) (σ: St) (Q:VK) (u:Value) (s':Shared):Prop:=∃ v H',aQ X pins σ H' s'/\aX v u/\Q v H'
def TP (X:Cx) (pins:List (Addr×Obj)) (σ: St) (Q:Bool->Hp->Prop) (b:Bool) (s':Shared):Prop:=∃ H',aQ X pins σ H' s'/\Q b H'
def AP (X:Cx) (pins:List (Addr×Obj)) (σ: St) (Q:List V->Hp->Prop) (us:List Value) (s':Shared):Prop:=∃ vs H',aQ X pins σ H' s'/\bB vs us/\Q vs H'
def SP (X:Cx) (pins:List (Addr×Obj)) (D:uM) (f:Flow) (s':Shared):Prop :=
 match f with
 |.next=>∃ σ' H',aQ X pins σ' H' s'/\D.nx σ' H'
 |.brk=>∃ σ' H',aQ X pins σ' H' s'/\D.bk σ' H'
 |.cont=>∃ σ' H',aQ X pins σ' H' s'/\D.ct σ' H'
 |.ret u=>∃ v σ' H',aQ X pins σ' H' s'/\aX v u/\D.rt v H'
def PE (X:Cx) (e:Expr) (t:TE):Prop :=
 ∀ (pins:List (Addr×Obj)) (s:Shared) (σ: St) (H:Hp) (Q:VK),aQ X pins σ H s->t σ H Q->wpAny (model X.prog X.w) X.A (eval e X.env) (EP X pins σ Q) X.xe s
def PT (X:Cx) (e:Expr) (t:TT):Prop :=
 ∀ (pins:List (Addr×Obj)) (s:Shared) (σ: St) (H:Hp) (Q:Bool->Hp->Prop),aQ X pins σ H s->t σ H Q->wpAny (model X.prog X.w) X.A (isTrue e X.env (eval e X.env)) (TP X pins σ Q) X.xe s
def PW (X:Cx) (e:Expr) (t:TT):Prop :=
 ∀ (whole:Sem Value) (pins:List (Addr×Obj)) (s:Shared) (σ: St) (H:Hp) (Q:Bool->Hp->Prop),aQ X pins σ H s->t σ H Q->wpAny (model X.prog X.w) X.A (isTrue e X.env whole) (TP X pins σ Q) X.xe s
theorem PW.pt {X:Cx}{e:Expr}{t:TT}(h:PW X e t):PT X e t:=h _
def PA (X:Cx) (es:List Expr) (t:TA):Prop :=
 ∀ (pos:Pos) (pins:List (Addr×Obj)) (s:Shared) (σ: St) (H:Hp) (Q:List V->Hp->Prop),aQ X pins σ H s->t σ H Q->wpAny (model X.prog X.w) X.A (spliced (backTo pos (starEach es X.env))) (AP X pins σ Q) X.xe s
def PS (X:Cx) (st:Stmt) (t:TS):Prop :=
 ∀ (pins:List (Addr×Obj)) (s:Shared) (σ: St) (H:Hp) (D:uM),aQ X pins σ H s->t D σ H->wpAny (model X.prog X.w) X.A (exec st X.env) (SP X pins D) X.xe s
def PSs (X:Cx) (st:List Stmt) (t:TS):Prop :=
 ∀ (pins:List (Addr×Obj)) (s:Shared) (σ: St) (H:Hp) (D:uM),aQ X pins σ H s->t D σ H->wpAny (model X.prog X.w) X.A (execs st X.env) (SP X pins D) X.xe s
theorem cO {α: Type}{t:Sem α}{Q Q':α->Shared->Prop}{M:Model}{A:Around}{E:Value->Shared->Prop}{s:Shared}(h:wpAny M A t Q E s) (hQ:∀ a s,Q a s->Q' a s):wpAny M A t Q' E s:=gh h hQ fun _ _ x=>x
section
variable {X:Cx}
def cE4 (i:Nat):TE:=fun σ H Q=>∃ v,σ[i]?=some (some v)/\Q v H
def tC (v:V):TE:=fun _ H Q=>Q v H
theorem bU8 {i:Nat}{x:Str}{pos:Pos}(hN:X.N[i]?=some x) (hv:Vis X.env.scope x) (hd:autoParam ((x == ("__debug__": Str))=false) Rq1._auto_1) (hcd:autoParam ((x == ("__classdict__": Str))=false) Rq1._auto_1):PE X (.Name x pos) (cE4 i):=by
 intro pins s σ H Q I h
 obtain ⟨v,e,h⟩:=h
 obtain ⟨m,hn,hl⟩:=I.loc
 obtain ⟨u,r,l⟩:=hl i x v hN e hv
 have fin:EP X pins σ Q u s:=⟨v,H,I,r,h⟩
 rcases l with ⟨hk,hm⟩ | ⟨hk,c,hc,hcell⟩
 ·exact wpAny_Name (aAq I.ok.kind hk hn hm fin) hd
 ·rcases hk with hk | hk
  ·exact wpAny_Name (aBe I.ok.kind hk hc hcell fin) hd
  ·exact wpAny_Name (wpAny_loadName_free I.ok.kind hk hc hcell fin hcd) hd
theorem aD {i j pos}:PE X (.Constant (.int i) j pos) (tC (.int i)):=fun _ _ _ H _ I h=>wpAny_Constant_int ⟨.int i,H,I.tok _,⟨_,rfl⟩,h⟩
theorem eV {b j pos}:PE X (.Constant (.bool b) j pos) (tC (.bl b)):=fun _ _ _ H _ I h=>Constant_bool ⟨.bl b,H,I,rfl,h⟩
theorem aU4 {j pos}:PE X (.Constant .none j pos) (tC .non):=fun _ _ _ H _ I h=>Constant_none ⟨.non,H,I,rfl,h⟩
theorem cK {x j pos}:PE X (.Constant (.str x) j pos) (tC (.str x)):=fun _ _ _ H _ I h=>Calls.Constant_str ⟨.str x,H,I.tok _,⟨_,rfl⟩,h⟩
def Gl (X:Cx) (x:Str):Prop:=X.env.kindOf x=some .globalImplicit
theorem aL6 {E:Value->Shared->Prop}{pins:List (Addr×Obj)}{s:Shared}{σ: St}{H:Hp}{x:Str}{u:Value}{pos:Pos}{Q:Value->Shared->Prop}(I:aQ X pins σ H s) (hg:Gl X x) (hm:X.mg x=some u) (h:Q u s)
  (hd:autoParam ((x == ("__debug__": Str))=false) Rq1._auto_1):wpAny (model X.prog X.w) X.A (eval (.Name x pos) X.env) Q E s :=
 xi I.ok.kind hg (Calls.loadGlobal_global (by rw [I.ok.glob];exact I.mod.glob.keeps I.bk) hm h) hd
theorem kH {E:Value->Shared->Prop}{pins:List (Addr×Obj)}{s:Shared}{σ: St}{H:Hp}{x:Str}{u:Value}{pos:Pos}{Q:Value->Shared->Prop}(I:aQ X pins σ H s) (hg:Gl X x) (hm:X.mg x=none) (hv:bootBuiltins x=some u) (h:Q u s)
  (hn:autoParam (x≠"__name__") Rq1._auto_1) (hd:autoParam ((x == ("__debug__": Str))=false) Rq1._auto_1):wpAny (model X.prog X.w) X.A (eval (.Name x pos) X.env) Q E s:=by
 obtain ⟨mb,h1,h2⟩:=I.mod.blt
 exact xi I.ok.kind hg (Calls.loadGlobal_builtin (by rw [I.ok.glob];exact I.mod.glob.keeps I.bk) hm (by rw [I.ok.blt];exact h1.keeps I.bk) ((h2 x hn).trans hv) h) hd
theorem rZ {x:Str}{v:V}{u:Value}{pos:Pos}(hg:Gl X x) (hm:X.mg x=none) (hv:bootBuiltins x=some u) (r:aX v u) (hn:autoParam (x≠"__name__") Rq1._auto_1) (hd:autoParam ((x == ("__debug__": Str))=false) Rq1._auto_1):PE X (.Name x pos) (tC v) :=
 fun _ _ _ H _ I h=>kH I hg hm hv ⟨v,H,I,r,h⟩ hn hd
variable {a b:Expr}{ta tb:TE}{pos:Pos}
def PC (X:Cx) (op:CmpOp) (a b:Expr) (t:TE):Prop :=
 ∀ (pins:List (Addr×Obj)) (s:Shared) (σ: St) (H:Hp) (Q:VK),aQ X pins σ H s->t σ H Q ->
  wpAny (model X.prog X.w) X.A (eval a X.env) (fun v s₁=>wpAny (model X.prog X.w) X.A (eval b X.env) (fun u s₂=>wpAny (model X.prog X.w) X.A (compareOp op v u) (EP X pins σ Q) X.xe s₂) X.xe s₁) X.xe s
theorem aC5 (b:Expr) {op:CmpOp}(h:op≠ .In) (h2:op≠ .NotIn):behindInMarks op b=false:=by
 have e1:(op == CmpOp.In)=false:=by cases op <;> first | rfl | exact absurd rfl h
 have e2:(op == CmpOp.NotIn)=false:=by cases op <;> first | rfl | exact absurd rfl h2
 cases b <;> simp [behindInMarks,e1,e2]
def bZ5 (ta:TE):TE:=fun σ H Q=>ta σ H fun x H1=>Q (.bl (!decide (x= .non))) H1
theorem aX.none_iff {x:V}{v:Value}(r:aX x v):(v == Value.none)=decide (x= .non):=by
 cases x with
 |non=>cases r;rfl
 |bl _=>cases r;rfl
 |int _=>obtain ⟨t,rfl⟩:=r;rfl
 |str _=>obtain ⟨t,rfl⟩:=r;rfl
 |byt _=>obtain ⟨t,rfl⟩:=r;rfl
 |flt _=>obtain ⟨t,rfl⟩:=r;rfl
 |ref _=>cases r;rfl
 |ty _=>cases r;rfl
theorem aK4 {j pos'} (ha:PE X a ta):PC X .IsNot a (.Constant .none j pos') (bZ5 ta):=by
 intro pins s σ H Q I h
 refine cO (ha pins s σ H _ I h) ?_;rintro v s1 ⟨x,H1,I1,r1,q1⟩
 exact Constant_none (isnot_none_gen ⟨.bl _,H1,I1,by rw [r1.none_iff];rfl,q1⟩)
def tB (t:TE):TT:=fun σ H Q=>t σ H fun x H1=>∃ c,x= .bl c/\Q c H1
theorem bD2 {op:CmpOp}{t:TE}(h:PC X op a b t) (h1:autoParam (behindInMarks op b=false) Rq8._auto_1):PE X (.Compare a [op] [b] pos) t:=fun pins s σ H Q I hw=>wpAny_Compare1 (h pins s σ H Q I hw) h1
theorem lL {op:CmpOp}{t:TE}(h:PC X op a b t) (h1:autoParam (behindInMarks op b=false) Rq8._auto_1):PT X (.Compare a [op] [b] pos) (tB t):=by
 intro pins s σ H Q I hw
 refine aAe (cO (h pins s σ H _ I hw) fun v s1 h1=>cO h1 fun u s2 h2=>cO h2 fun c s3 ⟨x,H1,I1,r1,q1⟩=>?_) h1
 obtain ⟨d,rfl,q⟩:=q1
 cases r1
 exact jl ⟨H1,I1,q⟩
theorem fZ {e:Expr}{t:TE}(h:PE X e t) (he:autoParam (∀ whole,isTrue e X.env whole=(do let v <- whole;standAt e.pos;holding [v] (truthy v))) Rq4._auto_1):PT X e (tB t):=by
 intro pins s σ H Q I hw
 refine isTrue_plain (cO (h pins s σ H _ I hw) ?_) (he _);rintro v s1 ⟨x,H1,I1,r1,q1⟩
 obtain ⟨d,rfl,q⟩:=q1
 cases r1
 exact jl ⟨H1,I1,q⟩
variable {tA tB':TT}{rest:List Expr}
def cK4 (t u:TT):TT:=fun σ H Q=>t σ H fun c H1=>if c=true then u σ H1 Q else Q false H1
def tOr (t u:TT):TT:=fun σ H Q=>t σ H fun c H1=>if c=true then Q true H1 else u σ H1 Q
def cH8 (t:TT):TT:=fun σ H Q=>t σ H fun c H1=>Q (!c) H1
theorem mM (ha:PT X a tA):PW X (.BoolOp .And [a] pos) tA:=by
 intro wh pins s σ H Q I h
 refine isTrue_and (cO (ha pins s σ H Q I h) fun c s1 e=>?_)
 cases c with
 |true=>exact isTrue_and_nil e
 |false=>exact e
theorem pS (ha:PT X a tA):PW X (.BoolOp .Or [a] pos) tA:=by
 intro wh pins s σ H Q I h
 refine isTrue_or (cO (ha pins s σ H Q I h) fun c s1 e=>?_)
 cases c with
 |false=>exact isTrue_or_nil e
 |true=>exact e
theorem pW (ha:PT X a tA) (hb:PW X (.BoolOp .And (b :: rest) pos) tB'):PW X (.BoolOp .And (a :: b :: rest) pos) (cK4 tA tB'):=by
 intro wh pins s σ H Q I h
 refine isTrue_and (cO (ha pins s σ H _ I h) ?_);rintro c s1 ⟨H1,I1,q1⟩
 cases c with
 |true=>exact hb wh pins s1 σ H1 Q I1 q1
 |false=>exact ⟨H1,I1,q1⟩
theorem tN (ha:PT X a tA) (hb:PW X (.BoolOp .Or (b :: rest) pos) tB'):PW X (.BoolOp .Or (a :: b :: rest) pos) (tOr tA tB'):=by
 intro wh pins s σ H Q I h
 refine isTrue_or (cO (ha pins s σ H _ I h) ?_);rintro c s1 ⟨H1,I1,q1⟩
 cases c with
 |true=>exact ⟨H1,I1,q1⟩
 |false=>exact hb wh pins s1 σ H1 Q I1 q1
theorem nC (ha:PT X a tA):PT X (.UnaryOp .Not a pos) (cH8 tA):=by
 intro pins s σ H Q I h
 exact isTrue_not (ha pins s σ H (fun c H1=>Q (!c) H1) I h)
def cG5 (ta tb:TE):TE:=fun σ H Q=>ta σ H fun x H1=>∃ c,x= .bl c/\if c=true then tb σ H1 Q else Q (.bl false) H1
def cC7 (ta:TE):TE:=fun σ H Q=>ta σ H fun x H1=>∃ c,x= .bl c/\Q (.bl (!c)) H1
theorem aE3 {op} {t:TE}(h:PE X a t):PE X (.BoolOp op [a] pos) t:=fun pins s σ H Q I hw=>BoolOp_one (h pins s σ H Q I hw)
theorem aI4 (ha:PE X a ta) (hb:PE X (.BoolOp .And (b :: rest) pos) tb):PE X (.BoolOp .And (a :: b :: rest) pos) (cG5 ta tb):=by
 intro pins s σ H Q I h
 refine BoolOp_and (cO (ha pins s σ H _ I h) ?_);rintro v s1 ⟨x,H1,I1,r1,q1⟩
 obtain ⟨c,rfl,q1⟩:=q1
 cases r1
 refine jl ?_
 cases c with
 |true=>exact hb pins s1 σ H1 Q I1 q1
 |false=>exact ⟨.bl false,H1,I1,rfl,q1⟩
theorem aV6 (ha:PE X a ta):PE X (.UnaryOp .Not a pos) (cC7 ta):=by
 intro pins s σ H Q I h
 refine UnaryOp_ (cO (ha pins s σ H _ I h) ?_);rintro v s1 ⟨x,H1,I1,r1,q1⟩
 obtain ⟨c,rfl,q1⟩:=q1
 cases r1
 exact not_of (jl ⟨.bl (!c),H1,I1,rfl,q1⟩)
end
def bK (K:PySem.W.Frag) (H:Hp) (a:Addr) (xs:List V):Prop :=
 Rd H a (.lst xs) \/
  ∃ (o:Obj) (its:Array Value) (n:Nat),K.lookup a=some o/\o.cls= .type "list"/\o.dict=none/\o.data= .seq its n/\its.size<=sizeLine/\bB xs its.toList
def aT (K:PySem.W.Frag) (H:Hp) (a:Addr) (xs:List V):Prop :=
 Rd H a (.tup xs) \/
  ∃ (o:Obj) (its:Array Value) (n:Nat),K.lookup a=some o/\o.cls= .type "tuple"/\o.data= .seq its n/\its.size<=sizeLine/\bB xs its.toList
def cI2:Value->Option V
 |.none=>some .non
 |.bool b=>some (.bl b)
 |.int i _=>some (.int i)
 |.str x _=>some (.str x)
 |.bytes b _=>some (.byt b)
 |.float b _=>some (.flt b)
 |.ref a=>some (.ref a)
 |.type n=>some (.ty n)
 |_=>none
theorem aX.abs {x:V}{u:Value}(r:aX x u):cI2 u=some x:=by
 cases x with
 |non=>cases r;rfl
 |bl _=>cases r;rfl
 |int _=>obtain ⟨t,rfl⟩:=r;rfl
 |str _=>obtain ⟨t,rfl⟩:=r;rfl
 |byt _=>obtain ⟨t,rfl⟩:=r;rfl
 |flt _=>obtain ⟨t,rfl⟩:=r;rfl
 |ref _=>cases r;rfl
 |ty _=>cases r;rfl
theorem aX.inj {x y:V}{u:Value}(r:aX x u) (q:aX y u):x=y:=dm (r.abs.symm.trans q.abs)
theorem bB.inj {xs ys:List V}{us:List Value}(p:bB xs us) (q:bB ys us):xs=ys:=by
 induction p generalizing ys with
 |nil=>
  cases q
  rfl
 |cons r t ih=>
  cases q with
  |cons r' t'=>rw [r.inj r',ih t']
section
variable {X:Cx}{pins:List (Addr×Obj)}{σ: St}{H:Hp}{s:Shared}{a:Addr}{xs ys:List V}
theorem bK.of {K:PySem.W.Frag}(h:H a=some (.lst xs)):bK K H a xs:= .inl (.inl h)
theorem aT.of {K:PySem.W.Frag}(h:H a=some (.tup xs)):aT K H a xs:= .inl (.inl h)
theorem aQ.list (I:aQ X pins σ H s) (h:bK X.K H a xs):∃ its:List Value,bB xs its/\PlainL s.heap a its.toArray/\xs.length<=sizeLine:=by
 rcases h with h | ⟨o,its,n,hk,hc,hd,hs,hz,r⟩
 ·obtain ⟨z,its,n,r,e⟩:=h.ok I.hok
  exact ⟨its,r,⟨_,n,e,rfl,rfl,rfl⟩,z⟩
 ·exists its.toList,r,⟨o,n,I.kIn a o hk,hc,hd,by simpa using hs⟩,?_
  have e:=r.length
  simp only [Array.length_toList] at e
  omega
theorem aQ.tuple (I:aQ X pins σ H s) (h:aT X.K H a xs):∃ its:List Value,bB xs its/\IsTup s.heap a its.toArray/\xs.length<=sizeLine:=by
 rcases h with h | ⟨o,its,n,hk,hc,hs,hz,r⟩
 ·obtain ⟨z,its,r,p⟩:=h.ok I.hok
  exact ⟨its,r,p.is,z⟩
 ·exists its.toList,r,⟨o,I.kIn a o hk,hc,n,by simpa using hs⟩,?_
  have e:=r.length
  simp only [Array.length_toList] at e
  omega
theorem aQ.list_inj (I:aQ X pins σ H s) (h:bK X.K H a xs) (h':bK X.K H a ys):xs=ys:=by
 obtain ⟨its,r,⟨o,n,e,_,_,d⟩,_⟩:=I.list h
 obtain ⟨its',r',⟨o',n',e',_,_,d'⟩,_⟩:=I.list h'
 rw [e] at e';cases e'
 rw [d] at d'
 injection d' with d1 _
 have:its=its':=by simpa using ed Array.toList d1
 subst this
 exact r.inj r'
theorem aQ.tuple_inj (I:aQ X pins σ H s) (h:aT X.K H a xs) (h':aT X.K H a ys):xs=ys:=by
 obtain ⟨its,r,⟨o,e,_,n,d⟩,_⟩:=I.tuple h
 obtain ⟨its',r',⟨o',e',_,n',d'⟩,_⟩:=I.tuple h'
 rw [e] at e';cases e'
 rw [d] at d'
 injection d' with d1 _
 have:its=its':=by simpa using ed Array.toList d1
 subst this
 exact r.inj r'
end
abbrev Cx.wish (X:Cx) (E:Value->Shared->Prop):Cx:={ X with xe:=E }
abbrev Cx.nox (X:Cx):Cx:=X.wish fun _ _=>False
theorem Cx.Ok.wish {X:Cx}(ok:X.Ok) (E:Value->Shared->Prop):(X.wish E).Ok :=
 ⟨ok.mod,ok.kind,ok.glob,ok.blt,ok.above,ok.inj,ok.has,ok.cab,ok.hd,ok.frames,ok.stk,ok.exf,ok.bs,ok.bsz,ok.noex,ok.exfs,ok.funs,ok.frf⟩
theorem Cx.Ok.unwish {X:Cx}{E:Value->Shared->Prop}(ok:(X.wish E).Ok):X.Ok :=
 ⟨ok.mod,ok.kind,ok.glob,ok.blt,ok.above,ok.inj,ok.has,ok.cab,ok.hd,ok.frames,ok.stk,ok.exf,ok.bs,ok.bsz,ok.noex,ok.exfs,ok.funs,ok.frf⟩
section
variable {X:Cx}{pins:List (Addr×Obj)}{σ: St}{H:Hp}{s:Shared}{E:Value->Shared->Prop}
theorem aQ.wish (I:aQ X pins σ H s) (E:Value->Shared->Prop):aQ (X.wish E) pins σ H s:=⟨I.ok.wish E,I.os,I.bare,I.base,I.loc,I.cell,I.free,I.freeC,I.pin,I.hok,I.len⟩
theorem aQ.unwish (I:aQ (X.wish E) pins σ H s):aQ X pins σ H s:=⟨I.ok.unwish,I.os,I.bare,I.base,I.loc,I.cell,I.free,I.freeC,I.pin,I.hok,I.len⟩
theorem SP.unwish {D:uM}{f:Flow}{s':Shared}(h:SP (X.wish E) pins D f s'):SP X pins D f s':=by
 cases f with
 |next=>obtain ⟨σ',H',I,q⟩:=h;exact ⟨σ',H',I.unwish,q⟩
 |brk=>obtain ⟨σ',H',I,q⟩:=h;exact ⟨σ',H',I.unwish,q⟩
 |cont=>obtain ⟨σ',H',I,q⟩:=h;exact ⟨σ',H',I.unwish,q⟩
 |ret u=>obtain ⟨v,σ',H',I,r,q⟩:=h;exact ⟨v,σ',H',I.unwish,r,q⟩
theorem PSs.nox {st:List Stmt}{t:TS}(h:PSs X.nox st t):PSs X st t:=fun pins s σ H D I hw =>
 gh (h pins s σ H D (I.wish _) hw) (fun _ _ q=>q.unwish) fun _ _ z=>False.elim z
end
section
variable {X:Cx}{st:Stmt}{rest:List Stmt}{t u:TS}{e:Expr}{te:TE}{pos:Pos}
def tNext:TS:=fun D σ H=>D.nx σ H
def bS7 (t u:TS):TS:=fun D σ H=>t { D with nx:=u D } σ H
theorem aU:PSs X [] tNext:=fun _ _ σ H _ I h=>vc ⟨σ,H,I,h⟩
theorem aI (h1:PS X st t) (h2:PSs X rest u):PSs X (st :: rest) (bS7 t u):=by
 intro pins s σ H D I h
 refine wpAny_execs_cons (cO (h1 pins s σ H { D with nx:=u D } I h) fun f s1 q=>?_)
 cases f with
 |next =>
  obtain ⟨σ',H',I',q⟩:=q
  exact h2 pins s1 σ' H' D I' q
 |ret v=>exact q
 |brk=>exact q
 |cont=>exact q
theorem aG (h1:PS X st t):PSs X [st] t:=by
 intro pins s σ H D I h
 refine wpAny_execs_cons (cO (h1 pins s σ H D I h) fun f s1 q=>?_)
 cases f with
 |next=>exact vc q
 |ret v=>exact q
 |brk=>exact q
 |cont=>exact q
theorem aQ.quiet {pins:List (Addr×Obj)}{σ: St}{H:Hp}{s:Shared}(I:aQ X pins σ H s):interactive X.env=false:=by simp [interactive,I.ok.kind]
def cC9 (te:TE):TS:=fun D σ H=>te σ H fun _ H1=>D.nx σ H1
theorem hX (he:PE X e te) (hs:autoParam (swapsWith e none pos.line X.env=pure false) Rq0._auto_1):PS X (.Expr e pos) (cC9 te):=by
 intro pins s σ H D I h
 refine wpAny_Expr_any (cO (he pins s σ H _ I h) ?_) I.quiet hs;rintro v s1 ⟨x,H1,I1,r1,q1⟩;exact ⟨σ,H1,I1,q1⟩
def cJ6 (te:TE):TS:=fun D σ H=>te σ H D.rt
theorem aP (he:PE X e te):PS X (.Return (some e) pos) (cJ6 te):=by
 intro pins s σ H D I h
 refine wpAny_Return_some (cO (he pins s σ H _ I h) ?_);rintro v s1 ⟨x,H1,I1,r1,q1⟩;exact ⟨x,σ,H1,I1,r1,q1⟩
def cJ0 (c:TT) (t u:TS):TS:=fun D σ H=>c σ H fun b H1=>if b=true then t D σ H1 else u D σ H1
theorem cE {c:Expr}{a b:List Stmt}{tc:TT}(hc:PT X c tc) (ha:PSs X a t) (hb:PSs X b u):PS X (.If c a b pos) (cJ0 tc t u):=by
 intro pins s σ H D I h
 refine wpAny_If (cO (hc pins s σ H _ I h) ?_);rintro d s1 ⟨H1,I1,q1⟩
 cases d with
 |true=>exact ha pins s1 σ H1 D I1 q1
 |false=>exact hb pins s1 σ H1 D I1 q1
end
abbrev TG:=V->St->Hp->(St->Hp->Prop)->Prop
abbrev TGs:=List V->St->Hp->(St->Hp->Prop)->Prop
def PG (X:Cx) (target:Expr) (t:TG):Prop :=
 ∀ (pins:List (Addr×Obj)) (s:Shared) (σ: St) (H:Hp) (v:V) (u:Value) (Q:St->Hp->Prop),aQ X pins σ H s->aX v u->t v σ H Q ->
  wpAny (model X.prog X.w) X.A (assign target X.env u) (fun _ s'=>∃ σ' H',aQ X pins σ' H' s'/\Q σ' H') X.xe s
def PGs (X:Cx) (ts:List Expr) (t:TGs):Prop :=
 ∀ (pins:List (Addr×Obj)) (s:Shared) (σ: St) (H:Hp) (vs:List V) (us:List Value) (Q:St->Hp->Prop),aQ X pins σ H s->bB vs us->t vs σ H Q ->
  wpAny (model X.prog X.w) X.A (assignInOrder ((assignEach ts X.env).map (·.2)) us) (fun _ s'=>∃ σ' H',aQ X pins σ' H' s'/\Q σ' H') X.xe s
abbrev TSet:=V->V->V->Hp->(Hp->Prop)->Prop
def cB0 (X:Cx) (t:TSet):Prop :=
 ∀ (pins:List (Addr×Obj)) (s:Shared) (σ: St) (H:Hp) (o i v:V) (ov iv u:Value) (Q:Hp->Prop),aQ X pins σ H s->aX o ov->aX i iv->aX v u->t o i v H Q ->
  wpAny (model X.prog X.w) X.A (setItem ov iv u) (fun _ s'=>∃ H',aQ X pins σ H' s'/\Q H') X.xe s
abbrev TIp:=V->V->Hp->VK->Prop
def PIp (X:Cx) (op:Operator) (t:TIp):Prop :=
 ∀ (pins:List (Addr×Obj)) (s:Shared) (σ: St) (H:Hp) (x y:V) (v u:Value) (Q:VK),aQ X pins σ H s->aX x v->aX y u->t x y H Q ->
  wpAny (model X.prog X.w) X.A (inplaceOp op v u) (EP X pins σ Q) X.xe s
section
variable {X:Cx}{pos:Pos}
def wD (i:Nat):TG:=fun v σ H Q=>Q (σ.set i (some v)) H
theorem rR {i:Nat}{x:Str}(hN:X.N.Nodup) (hi:X.N[i]?=some x) (hx:Loc X.env.scope x) (hf:autoParam (X.fn x=true\/X.env.scope.names.lookup x=some .local) Rq2._auto_1):PG X (.Name x pos) (wD i):=by
 intro pins s σ H v u Q I r h
 exact wpAny_assign_Name (lI I hN hi hx r (fun s' I'=>⟨_,H,I',h⟩) hf)
def gNil:TGs:=fun vs σ H Q=>vs=[]/\Q σ H
def cE6 (t:TG) (u:TGs):TGs:=fun vs σ H Q=>∃ v r,vs=v :: r/\t v σ H fun σ' H'=>u r σ' H' Q
theorem bE:PGs X [] gNil:=by
 intro pins s σ H vs us Q I r h
 obtain ⟨e,h⟩:=h
 subst e
 cases r
 exact assignInOrder_nil ⟨σ,H,I,h⟩
theorem aL {e:Expr}{es:List Expr}{t:TG}{u:TGs}(h1:PG X e t) (h2:PGs X es u)
  (hs:autoParam ((assignEach (e :: es) X.env).map (·.2)=assign e X.env :: (assignEach es X.env).map (·.2)) Rq0._auto_1):PGs X (e :: es) (cE6 t u):=by
 intro pins s σ H vs us Q I r h
 obtain ⟨v,vr,e1,h⟩:=h
 subst e1
 cases r with
 |cons r rr =>
  rw [hs]
  refine ww (cO (h1 pins s σ H _ _ _ I r h) ?_);rintro _ s1 ⟨σ1,H1,I1,q1⟩
  exact h2 pins s1 σ1 H1 _ _ Q I1 rr q1
def cF3 (K:PySem.W.Frag) (n:Nat) (t:TGs):TG:=fun v σ H Q=>∃ a xs,v= .ref a/\aT K H a xs/\xs.length=n/\t xs σ H Q
theorem gC {es:List Expr}{k:Nat}{t:TGs}{n:Nat}(hc:X.calm=true) (h:PGs X es t)
  (hn:autoParam ((assignEach es X.env).length=n) Rq0._auto_1) (hst:autoParam ((assignEach es X.env).findIdx? (·.1)=none) Rq0._auto_1):PG X (.Tuple es k pos) (cF3 X.K n t):=by
 intro pins s σ H v u Q I r hw
 obtain ⟨a,xs,e1,hq,hl,hw⟩:=hw
 subst e1
 cases r
 obtain ⟨its,rv,ht,hz⟩:=I.tuple hq
 refine assign_Tuple_tuple (I.ok.hd hc) ht (by simp [hn, <- hl,rv.length]) hst fun h' hx=>?_
 have I1:aQ X pins σ H { s with heap:=h' }:=I.kept (t':=s.toks) fun b o e=>hx b o (cw (bi e)) e
 exact h pins _ σ H xs _ Q I1 (by simpa using rv) hw
def cJ3 (to ti:TE) (t:TSet):TG:=fun v σ H Q=>to σ H fun o H1=>ti σ H1 fun i H2=>t o i v H2 fun H3=>Q σ H3
theorem bB6 {o i:Expr}{to ti:TE}{t:TSet}(ho:PE X o to) (hi:PE X i ti) (hs:cB0 X t)
  (ha:autoParam (∀ v,assign (.Subscript o i pos) X.env v=(do
   let ov <- holding [v] (eval o X.env)
   let iv <- holding [v,ov] (eval i X.env)
   standAt pos
   holding [v,ov,iv] (setItem ov iv v)
   release [v,ov,iv] [])) Rq4._auto_1):PG X (.Subscript o i pos) (cJ3 to ti t):=by
 intro pins s σ H v u Q I r h
 rw [ha]
 refine aa (fg (cO (ho pins s σ H _ I h) ?_));rintro ov s1 ⟨x,H1,I1,r1,q1⟩
 refine aa (fg (cO (hi pins s1 σ H1 _ I1 q1) ?_));rintro iv s2 ⟨y,H2,I2,r2,q2⟩
 refine aa (ue (aa (fg (cO (hs pins s2 σ H2 x y v ov iv u _ I2 r1 r2 r q2) ?_))));rintro _ s3 ⟨H3,I3,q3⟩
 exact wpAny_release ⟨σ,H3,I3,q3⟩
def bC4 (te:TE) (g:TG):TS:=fun D σ H=>te σ H fun x H1=>g x σ H1 D.nx
theorem qH {tg e:Expr}{te:TE}{g:TG}(he:PE X e te) (hg:PG X tg g) (hs:autoParam (swapsWithSole [tg] e pos.line X.env=pure false) Rq0._auto_1) (hw:autoParam (swappedStores [tg] e X.env=pure none) Rq0._auto_1)
  (h1:autoParam ((assignEach [tg] X.env).map (·.2)=[assign tg X.env]) Rq0._auto_1):PS X (.Assign [tg] e pos) (bC4 te g):=by
 intro pins s σ H D I h
 refine wpAny_Assign_stores (cO (he pins s σ H _ I h) ?_) hs hw;rintro v s1 ⟨x,H1,I1,r1,q1⟩
 rw [h1]
 exact cO (hg pins s1 σ H1 x v _ I1 r1 q1) fun _ s2 q=>q
theorem mZ {i:Nat}{x:Str}{e:Expr}{te:TE}{pos':Pos}(hN:X.N.Nodup) (hi:X.N[i]?=some x) (hx:Loc X.env.scope x) (he:PE X e te) (hs:autoParam (swapsWith e (some (.Name x pos')) pos.line X.env=pure false) Rq0._auto_1) (hf:autoParam (X.fn x=true\/X.env.scope.names.lookup x=some .local) Rq2._auto_1) :
  PS X (.Assign [.Name x pos'] e pos) (bC4 te (wD i)):=by
 intro pins s σ H D I h
 refine wpAny_Assign_Name (cO (he pins s σ H _ I h) ?_) hs;rintro v s1 ⟨y,H1,I1,r1,q1⟩
 exact lI I1 hN hi hx r1 (fun s2 I2=>⟨_,H1,I2,q1⟩) hf
def cI8 (i j:Nat) (ta:TA):TS:=fun D σ H=>ta σ H fun vs H1=>∃ v w,vs=[v,w]/\D.nx ((σ.set i (some v)).set j (some w)) H1
theorem aF5 {i j:Nat}{x y:Str}{a b:Expr}{ta:TA}{px py pt:Pos}{kt k2 pt2} (hc:X.calm=true) (hN:X.N.Nodup) (hi:X.N[i]?=some x) (hj:X.N[j]?=some y) (hij:i≠j)
  (hx:X.env.scope.names.lookup x=some .local) (hy:X.env.scope.names.lookup y=some .local) (ha:PA X [a,b] ta)
  (hw:swappedStores [.Tuple [.Name x px,.Name y py] kt pt] (.Tuple [a,b] k2 pt2) X.env=pure (some [x,y]))
  (hs:autoParam (swapsWithSole [.Tuple [.Name x px,.Name y py] kt pt] (.Tuple [a,b] k2 pt2) pos.line X.env=pure false) Rq0._auto_1) :
  PS X (.Assign [.Tuple [.Name x px,.Name y py] kt pt] (.Tuple [a,b] k2 pt2) pos) (cI8 i j ta):=by
 intro pins s σ H D I h
 rw [exec_Assign_arm]
 refine aa (ue ?_)
 rw [hs]
 refine aa (aj ?_)
 rw [ap (by decide)]
 refine aa (Tuple_ (cO (ha _ pins s σ H _ I h) ?_));rintro us s1 ⟨vs,H1,I1,r1,q1⟩
 obtain ⟨v,w,e1,q1⟩:=q1
 subst e1
 obtain ⟨u1,u2,rfl,rv,rw'⟩:∃ u1 u2,us=[u1,u2]/\aX v u1/\aX w u2:=by
  cases r1 with
  |cons p q =>
   cases q with
   |cons p' q' =>
    cases q'
    exact ⟨_,_,rfl,p,p'⟩
 refine gw ?_ (by show 2<=sizeLine;decide)
 have I2:aQ X pins σ H1 { s1 with heap:=s1.heap.push { cls:= .type "tuple",data:= .seq [u1,u2].toArray } }:=I1.kept (t':=s1.toks) fun b o e=>af _ e
 rw [hw]
 refine aa (aj ?_)
 show wpAny (model X.prog X.w) X.A (do rule "assign.swapped-stores";let items <- unpackItems (.ref s1.heap.objs.size) 2 none;assignInOrder [fun v=>bindName X.env y v,fun v=>bindName X.env x v] items.reverse;pure Flow.next) _ _ _
 refine aa (mj (aa (unpackItems_tuple (items:= #[u1,u2]) (I.ok.hd hc) (IsTup.new s1.heap _) fun h' hx'=>?_)))
 have I3:=I2.kept (h':=h') (t':=s1.toks) fun b o e=>hx' b o (cw (bi e)) e
 show wpAny _ _ (assignInOrder [fun v=>bindName X.env y v,fun v=>bindName X.env x v] [u2,u1] >>= fun _=>pure Flow.next) _ _ _
 refine aa (ww (wpAny_bindName (lI I3 hN hj (.inl hy) rw' (fun s2 I4=>?_) (.inr hy))))
 refine ww (wpAny_bindName (lI I4 hN hi (.inl hx) rv (fun s3 I5=>assignInOrder_nil (aj ?_)) (.inr hx)))
 rw [List.set_comm _ _ (Ne.symm hij)] at I5
 exact ⟨_,H1,I5,q1⟩
def cJ8 (i:Nat) (te:TE) (ti:TIp):TS:=fun D σ H=>∃ x,σ[i]?=some (some x)/\te σ H fun y H1=>ti x y H1 fun z H2=>D.nx (σ.set i (some z)) H2
theorem bR6 {i:Nat}{x:Str}{e:Expr}{te:TE}{op:Operator}{ti:TIp}{pos':Pos}(hN:X.N.Nodup) (hi:X.N[i]?=some x) (hx:Loc X.env.scope x) (he:PE X e te) (ho:PIp X op ti) (hf:autoParam (X.fn x=true\/X.env.scope.names.lookup x=some .local) Rq2._auto_1) :
  PS X (.AugAssign (.Name x pos') op e pos) (cJ8 i te ti):=by
 intro pins s σ H D I h
 obtain ⟨v,e1,h⟩:=h
 obtain ⟨m,hn,hl⟩:=I.loc
 have vis:Vis X.env.scope x:=by rcases hx with k | k;exact .inl k;exact .inr (.inl k)
 obtain ⟨u,r,l⟩:=hl i x v hi e1 vis
 refine wpAny_AugAssign_Name ?_
 have go:wpAny (model X.prog X.w) X.A (eval e X.env) (fun w s₂=>wpAny (model X.prog X.w) X.A (inplaceOp op u w) (fun r s₃=>wpAny (model X.prog X.w) X.A (storeName X.env x r) (fun _=>SP X pins D .next) X.xe s₃) X.xe s₂) X.xe s:=by
  refine cO (he pins s σ H _ I h) ?_;rintro w s1 ⟨y,H1,I1,r1,q1⟩
  refine cO (ho pins s1 σ H1 v y u w _ I1 r r1 q1) ?_;rintro z s2 ⟨zv,H2,I2,r2,q2⟩
  exact lI I2 hN hi hx r2 (fun s3 I3=>⟨_,H2,I3,q2⟩) hf
 rcases l with ⟨hk,hm⟩ | ⟨hk,c,hc,hcell⟩
 ·exact aAq I.ok.kind hk hn hm go
 ·rcases hk with hk | hk
  ·exact aBe I.ok.kind hk hc hcell go
  ·rcases hx with k | k
   ·have:X.env.scope.names.lookup x=some .free:=hk
    rw [k] at this;cases this
   ·have:X.env.scope.names.lookup x=some .free:=hk
    rw [k] at this;cases this
def ipI (f:Int->Int->Int):TIp:=fun x y H Q=>∃ i j,x= .int i/\y= .int j/\Q (.int (f i j)) H
theorem aT2:PIp X .Add (ipI fun i j=>i+j):=by
 intro pins s σ H x y v u Q I r1 r2 h
 obtain ⟨i,j,e1,e2,q⟩:=h
 subst e1;subst e2
 obtain ⟨t,rfl⟩:=r1
 obtain ⟨t',rfl⟩:=r2
 exact iadd_int ⟨.int _,H,I.tok _,⟨_,rfl⟩,q⟩
theorem aI3:PIp X .Sub (ipI fun i j=>i - j):=by
 intro pins s σ H x y v u Q I r1 r2 h
 obtain ⟨i,j,e1,e2,q⟩:=h
 subst e1;subst e2
 obtain ⟨t,rfl⟩:=r1
 obtain ⟨t',rfl⟩:=r2
 exact isub_int ⟨.int _,H,I.tok _,⟨_,rfl⟩,q⟩
def bW2 (c:TT) (tb:TS):TS:=fun D σ H=>∃ W:Nat->St->Hp->Prop,(∃ m,W m σ H)/\∀ m σ H,W m σ H ->
 c σ H fun b H1=>if b=true then ∃ N:St->Hp->Prop,(∀ σ' H',N σ' H'->∃ m',m' < m/\W m' σ' H')/\tb { D with nx:=N,ct:=N,bk:=D.nx } σ H1 else D.nx σ H1
theorem jV {c:Expr}{body:List Stmt}{tc:TT}{tb:TS}(hp:PassesOwn (model X.prog X.w) X.A X.env X.xe) (hc:PT X c tc) (hb:PSs X body tb):PS X (.While c body [] pos) (bW2 tc tb):=by
 intro pins s σ H D I h
 obtain ⟨W,⟨m0,w0⟩,turn⟩:=h
 refine wpAny_While (codeAny_whileLoop (fun n s'=>∃ σ' H',aQ X pins σ' H' s'/\W n σ' H') ?_ m0 ⟨σ,H,I,w0⟩)
 rintro n s1 ⟨σ1,H1,I1,w1⟩
 refine nj hp (cO (hc pins s1 σ1 H1 _ I1 (turn n σ1 H1 w1)) ?_);rintro b s2 ⟨H2,I2,q2⟩
 cases b with
 |true =>
  obtain ⟨N,hN,q2⟩:=q2
  rw [bh rfl]
  refine nj hp (cO (hb pins s2 σ1 H2 _ I2 q2) fun f s3 q3=>?_)
  cases f with
  |next =>
   obtain ⟨σ3,H3,I3,n3⟩:=q3
   obtain ⟨m',hm,w3⟩:=hN σ3 H3 n3
   exact ⟨m',hm,σ3,H3,I3,w3⟩
  |cont =>
   obtain ⟨σ3,H3,I3,n3⟩:=q3
   obtain ⟨m',hm,w3⟩:=hN σ3 H3 n3
   exact ⟨m',hm,σ3,H3,I3,w3⟩
  |brk=>exact q3
  |ret v=>exact q3
 |false =>
  rw [ap du]
  exact vc ⟨σ1,H2,I2,q2⟩
end
structure It where
 go:Nat->Hp->Prop
 yld:Nat->Hp->V->Hp->Prop
 stop:Nat->Hp->Prop
def kS (X:Cx) (pins:List (Addr×Obj)) (H:Hp) (b:Addr):Prop :=
 H b=none/\b≠X.env.locals/\b∉X.fs/\(b∈X.ex\/X.s₀.heap.objs.size<=b)/\(∀ x c,X.env.cells.lookup x=some c->c≠b)/\∀ p∈X.pn++pins,p.1≠b
theorem aQ.fpOk {X:Cx}{pins:List (Addr×Obj)}{σ: St}{H H':Hp}{s:Shared}{b:Addr}(I:aQ X pins σ H s) (hb:s.heap.objs.size<=b) (hn:H' b=none):kS X pins H' b:=by
 exists hn,ph (cr I.lt hb),I.nofs hb,.inr (cy I.sz hb),fun x c e z=>?_,fun p hp z=>?_
 ·obtain ⟨v,q⟩:=I.cell x c e
  exact absurd (cr q.lt (by rw [z];exact hb)) (ff _)
 ·exact absurd (cr (bi (I.pin p hp).1) (by rw [z];exact hb)) (ff _)
structure uF (P:Program) (w:World) (K:PySem.W.Frag) (tg:Expr) (J:It) (fp:List Addr) (it:Addr) (tn:Nat->Heap->Prop):Prop where
 mem:it∈fp
 obj:∀ i h,tn i h->∀ b∈fp,∃ o,h.get? b=some o/\∀ v,o.data≠ .cell v
 keep:∀ i h h',tn i h->(∀ b∈fp,∀ o,h.get? b=some o->h'.get? b=some o)->tn i h'
 item:∀ (X:Cx),X.prog=P->X.w=w->X.K=K->X.calm=true->∀ (i:Nat) (pins:List (Addr×Obj)) (s:Shared) (σ: St) (H:Hp) (E:Value->Shared->Prop),aQ X pins σ H s->(∀ b∈fp,kS X pins H b)->tn i s.heap->J.go i H ->
  wpAny (model P w) X.A (pyNext (.ref it)) (fun r s1=>∃ u,r=some u /\
   wpAny (model P w) X.A (letOwnedTupleGo tg (.ref it) u) (fun _ s2=>∃ x H',aQ X pins σ H' s2/\aX x u/\J.yld i H x H'/\tn (i+1) s2.heap/\∀ b∈fp,H' b=none) E s1) E s
 done:∀ (X:Cx),X.prog=P->X.w=w->X.K=K->X.calm=true->∀ (i:Nat) (pins:List (Addr×Obj)) (s:Shared) (σ: St) (H:Hp) (E:Value->Shared->Prop),aQ X pins σ H s->(∀ b∈fp,kS X pins H b)->tn i s.heap->J.stop i H ->
  wpAny (model P w) X.A (pyNext (.ref it)) (fun r s1=>r=none/\aQ X pins σ H s1) E s
 self:∀ (A:Around) (i:Nat) (s:Shared) (Q:Value->Shared->Prop) (E:Value->Shared->Prop),tn i s.heap->Q (.ref it) s->wpAny (model P w) A (pyIter (.ref it)) Q E s
abbrev TI:=St->Hp->(It->Hp->Prop)->Prop
def PIE (X:Cx) (pins:List (Addr×Obj)) (σ: St) (tg:Expr) (R:It->Hp->Prop) (itv:Value) (s2:Shared):Prop :=
 ∃ (it:Addr) (fp:List Addr) (tn:Nat->Heap->Prop) (J:It) (H':Hp),itv= .ref it/\aQ X pins σ H' s2/\uF X.prog X.w X.K tg J fp it tn/\tn 0 s2.heap/\(∀ b∈fp,kS X pins H' b)/\R J H'
def PI (X:Cx) (tg iter:Expr) (wi:TI):Prop :=
 ∀ (pins:List (Addr×Obj)) (s:Shared) (σ: St) (H:Hp) (R:It->Hp->Prop),aQ X pins σ H s->wi σ H R ->
  wpAny (model X.prog X.w) X.A (eval iter X.env) (fun v s1=>wpAny (model X.prog X.w) X.A (pyIter v) (PIE X pins σ tg R) X.xe s1) X.xe s
theorem go_of {M : Model}{A : Around}{E : Value -> Shared -> Prop}{s : Shared}{tg : Expr}{it : Addr}{u : Value}{o : Obj}{n : String}{vs : Array Value}{Q : Unit -> Shared -> Prop}(ho : s.heap.get? it = some o) (hc : o.cls = .type n) (hd : o.data = .fields vs)
    (hn : ["enumerate", "zip", "dict_itemiterator", "dict_reverseitemiterator", "odict_iterator", "itertools.zip_longest", "itertools.pairwise"].contains n = false) (hQ : Q () s) : wpAny M A (letOwnedTupleGo tg (.ref it) u) Q E s := by
  unfold letOwnedTupleGo
  cases tg <;> first
    | exact aj hQ
    | (cases u <;> first
        | exact aj hQ
        | (refine aa (wpAny_load ho ?_)
           rw [hc, hd]
           show wpAny M A (if (["enumerate", "zip", "dict_itemiterator", "dict_reverseitemiterator", "odict_iterator", "itertools.zip_longest", "itertools.pairwise"].contains n && vs[0]? == some (rawInt _)) = true then _ else _) Q E s
           rw [ap (by intro h; rw [hn, Bool.false_and] at h; cases h)]
           exact aj hQ))
def Itl (K:PySem.W.Frag) (a:Addr):It :=
 ⟨fun i H=>∃ xs x,bK K H a xs/\xs[i]?=some x,fun i H x H'=>H'=H/\∀ xs,bK K H a xs->xs[i]?=some x,fun i H=>∃ xs,bK K H a xs/\xs.length<=i⟩
def Itt (K:PySem.W.Frag) (a:Addr):It :=
 ⟨fun i H=>∃ xs x,aT K H a xs/\xs[i]?=some x,fun i H x H'=>H'=H/\∀ xs,aT K H a xs->xs[i]?=some x,fun i H=>∃ xs,aT K H a xs/\xs.length<=i⟩
def Itr (lo:Int) (n:Nat):It:=⟨fun i _=>i < n,fun i H x H'=>H'=H/\x= .int (lo+i),fun i _=>n<=i⟩
theorem aP9 {P:Program}{w:World}{K:PySem.W.Frag}{tg:Expr}(a it:Addr):uF P w K tg (Itl K a) [it] it (fun i h=>h.IsListIter it a i) where
 mem:=by simp
 obj:=fun i h st b hb=>by
  have e:b=it:=by simpa using hb
  subst e
  obtain ⟨o,e,c,d⟩:=st
  exact ⟨o,e,fun v z=>by rw [d] at z;cases z⟩
 keep:=fun i h h' st k=>st.at fun o e=>k it (by simp) o e
 item:=by
  intro X hP hw hK hc i pins s σ H E I hf st hg
  subst hP hw hK
  obtain ⟨xs,x,hq,hx⟩:=hg
  obtain ⟨its,rv,p,hz⟩:=I.list hq
  obtain ⟨u,hu,ru⟩:=rv.get hx
  obtain ⟨f0,f1,f2,f3,f4,f5⟩:=hf it (by simp)
  refine qe st p.isList (x:=u) (by simpa using hu) fun h' st' sb=>?_
  have I1:aQ X pins σ H { s with heap:=h' }:=I.turned (t':=s.toks) (fun b o hb e=>(sb.2 b hb).trans e) f0 f1 f3 f4 f5
  obtain ⟨o,e,c,d⟩:=id st'
  exact ⟨u,rfl,go_of (s:={ s with heap:=h' }) e c d (by decide) ⟨x,H,I1,ru,⟨rfl,fun ys hy=>by rw [I.list_inj hy hq];exact hx⟩,st',fun b hb=>(hf b hb).1⟩⟩
 done:=by
  intro X hP hw hK hc i pins s σ H E I hf st hg
  subst hP hw hK
  obtain ⟨xs,hq,hx⟩:=hg
  obtain ⟨its,rv,p,hz⟩:=I.list hq
  obtain ⟨f0,f1,f2,f3,f4,f5⟩:=hf it (by simp)
  have hl:=rv.length
  exact qi (I.ok.hd hc) st p.isList (by simp;omega) fun h' eb=>⟨rfl,I.turned (t':=s.toks) (fun b o hb e=>eb b o hb e) f0 f1 f3 f4 f5⟩
 self:=fun _ _ _ _ _ st h=>wpAny_pyIter_listiter st h
theorem aI0 {P:Program}{w:World}{K:PySem.W.Frag}{tg:Expr}(a it:Addr):uF P w K tg (Itt K a) [it] it (fun i h=>h.IsTupleIter it a i) where
 mem:=by simp
 obj:=fun i h st b hb=>by
  have e:b=it:=by simpa using hb
  subst e
  obtain ⟨o,e,c,d⟩:=st
  exact ⟨o,e,fun v z=>by rw [d] at z;cases z⟩
 keep:=fun i h h' st k=>st.at fun o e=>k it (by simp) o e
 item:=by
  intro X hP hw hK hc i pins s σ H E I hf st hg
  subst hP hw hK
  obtain ⟨xs,x,hq,hx⟩:=hg
  obtain ⟨its,rv,p,hz⟩:=I.tuple hq
  obtain ⟨u,hu,ru⟩:=rv.get hx
  obtain ⟨f0,f1,f2,f3,f4,f5⟩:=hf it (by simp)
  refine yr st (show s.heap.IsTuple a its.toArray from p) (x:=u) (by simpa using hu) fun h' st' sb=>?_
  have I1:aQ X pins σ H { s with heap:=h' }:=I.turned (t':=s.toks) (fun b o hb e=>(sb.2 b hb).trans e) f0 f1 f3 f4 f5
  obtain ⟨o,e,c,d⟩:=id st'
  exact ⟨u,rfl,go_of (s:={ s with heap:=h' }) e c d (by decide) ⟨x,H,I1,ru,⟨rfl,fun ys hy=>by rw [I.tuple_inj hy hq];exact hx⟩,st',fun b hb=>(hf b hb).1⟩⟩
 done:=by
  intro X hP hw hK hc i pins s σ H E I hf st hg
  subst hP hw hK
  obtain ⟨xs,hq,hx⟩:=hg
  obtain ⟨its,rv,p,hz⟩:=I.tuple hq
  obtain ⟨f0,f1,f2,f3,f4,f5⟩:=hf it (by simp)
  have hl:=rv.length
  exact zc (I.ok.hd hc) st (show s.heap.IsTuple a its.toArray from p) (by simp;omega) fun h' eb=>⟨rfl,I.turned (t':=s.toks) (fun b o hb e=>eb b o hb e) f0 f1 f3 f4 f5⟩
 self:=fun _ _ _ _ _ st h=>wpAny_pyIter_tupleiter st h
theorem aG5 {P:Program}{w:World}{K:PySem.W.Frag}{tg:Expr}(it:Addr) (lo:Int) (n:Nat):uF P w K tg (Itr lo n) [it] it (fun i h=>IsRangeIter h it (lo+(i:Nat) * 1) ((n:Int) - (i:Nat)) 1) where
 mem:=by simp
 obj:=fun i h st b hb=>by
  have e:b=it:=by simpa using hb
  subst e
  exact ⟨_,st,fun v z=>by
   have z':Data.fields _=Data.cell v:=z
   cases z'⟩
 keep:=fun i h h' st k=>k it (by simp) _ st
 item:=by
  intro X hP hw hK hc i pins s σ H E I hf st hg
  subst hP hw hK
  obtain ⟨f0,f1,f2,f3,f4,f5⟩:=hf it (by simp)
  have W:=Walks.range (prog:=X.prog) (w:=X.w) (I.ok.hd hc) it lo 1 n
  refine W.item i s _ _ hg st fun v h' tk hv st' kk=>?_
  obtain ⟨t,rfl⟩:=hv
  have I1:aQ X pins σ H { s with heap:=h',toks:=tk }:=I.turned (fun b o hb e=>kk b o (by simpa using hb) e) f0 f1 f3 f4 f5
  exists _,rfl,go_of (s:={ s with heap:=h',toks:=tk }) (n:="range_iterator") st' rfl rfl (by decide) ⟨.int (lo+i),H,I1,⟨t,?_⟩,⟨rfl,rfl⟩,st',fun b hb=>(hf b hb).1⟩
  rw [Int.mul_one]
 done:=by
  intro X hP hw hK hc i pins s σ H E I hf st hg
  subst hP hw hK
  obtain ⟨f0,f1,f2,f3,f4,f5⟩:=hf it (by simp)
  exact zd (I.ok.hd hc) st (by have:n<=i:=hg;omega) fun h' eb=>⟨rfl,I.turned (t':=s.toks) (fun b o hb e=>eb b o hb e) f0 f1 f3 f4 f5⟩
 self:=fun _ _ _ _ _ st h=>ze st h
section
variable {X:Cx}{tg:Expr}
def cG4 (K:PySem.W.Frag) (tl:TE):TI:=fun σ H R=>tl σ H fun x H1=>∃ a,x= .ref a/\(∃ xs,bK K H1 a xs)/\R (Itl K a) H1
def cK3 (K:PySem.W.Frag) (tl:TE):TI:=fun σ H R=>tl σ H fun x H1=>∃ a,x= .ref a/\(∃ xs,aT K H1 a xs)/\R (Itt K a) H1
theorem cH {l:Expr}{tl:TE}(hl:PE X l tl):PI X tg l (cG4 X.K tl):=by
 intro pins s σ H R I h
 refine cO (hl pins s σ H _ I h) ?_;rintro v s1 ⟨x,H1,I1,r1,q1⟩
 obtain ⟨a,e,⟨xs,hq⟩,q⟩:=q1
 subst e
 cases r1
 obtain ⟨its,rv,p,hz⟩:=I1.list hq
 refine im p.isList ?_
 exists s1.heap.objs.size,[s1.heap.objs.size],_,_,H1,rfl,I1.kept (t':=s1.toks) fun b o e=>af _ e,aP9 a _,⟨_,aq _ rfl,rfl,rfl⟩,fun b hb=>?_,q
 have e:b=s1.heap.objs.size:=by simpa using hb
 subst e
 exact I1.fpOk (ao _) (I1.hok.fresh (ao _))
theorem cM {l:Expr}{tl:TE}(hl:PE X l tl):PI X tg l (cK3 X.K tl):=by
 intro pins s σ H R I h
 refine cO (hl pins s σ H _ I h) ?_;rintro v s1 ⟨x,H1,I1,r1,q1⟩
 obtain ⟨a,e,⟨xs,hq⟩,q⟩:=q1
 subst e
 cases r1
 obtain ⟨its,rv,p,hz⟩:=I1.tuple hq
 refine rp (show s1.heap.IsTuple a its.toArray from p) ?_
 exists s1.heap.objs.size,[s1.heap.objs.size],_,_,H1,rfl,I1.kept (t':=s1.toks) fun b o e=>af _ e,aI0 a _,⟨_,aq _ rfl,rfl,rfl⟩,fun b hb=>?_,q
 have e:b=s1.heap.objs.size:=by simpa using hb
 subst e
 exact I1.fpOk (ao _) (I1.hok.fresh (ao _))
theorem yV {pins:List (Addr×Obj)}{σ: St}{H:Hp}{s:Shared}{R:It->Hp->Prop}{E:Value->Shared->Prop}{lo hi:Int}{t u v:Tok}{tk:Nat}(I:aQ X pins σ H s) (h1: -(2 ^ 62)<=lo) (h2:lo < 2 ^ 62) (h3: -(2 ^ 62)<=hi) (h4:hi < 2 ^ 62)
  (q:R (Itr lo (hi - lo).toNat) H):wpAny (model X.prog X.w) X.A (pyIter (.ref s.heap.objs.size)) (PIE X pins σ tg R) E { s with heap:=s.heap.push { cls:= .type "range",data:= .fields #[.int lo t,.int hi u,.int 1 v] },toks:=tk }:=by
 refine aBj (IsRange.new ..) (small_one h1 h2 h3 h4) ?_
 have I1:aQ X pins σ H { s with heap:=s.heap.push { cls:= .type "range",data:= .fields #[.int lo t,.int hi u,.int 1 v] },toks:=tk }:=I.kept fun b o e=>af _ e
 refine ⟨(s.heap.push { cls:= .type "range",data:= .fields #[.int lo t,.int hi u,.int 1 v] }).objs.size,[(s.heap.push { cls:= .type "range",data:= .fields #[.int lo t,.int hi u,.int 1 v] }).objs.size],_,_,H,rfl,
  I1.kept (t':=tk) fun b o e=>af _ e,aG5 _ lo (hi - lo).toNat,?_,fun b hb=>?_,q⟩
 ·have e1:lo+((0:Nat):Int) * 1=lo:=by simp
  have e2:(((hi - lo).toNat:Nat):Int) - ((0:Nat):Int)=Builtin.Range.rangeSize lo hi 1:=by rw [rangeSize_one];split <;> omega
  show IsRangeIter _ _ (lo+((0:Nat):Int) * 1) ((((hi - lo).toNat:Nat):Int) - ((0:Nat):Int)) 1
  rw [e1,e2]
  exact aq _ rfl
 ·have e:b=(s.heap.push { cls:= .type "range",data:= .fields #[.int lo t,.int hi u,.int 1 v] }).objs.size:=by simpa using hb
  subst e
  exact I1.fpOk (ao _) (I1.hok.fresh (ao _))
def bZ6 (ta:TA):TI:=fun σ H R=>ta σ H fun vs H1=>∃ j:Int,vs=[.int j]/\ -(2 ^ 62)<=j/\j < 2 ^ 62/\R (Itr 0 j.toNat) H1
def cG6 (ta:TA):TI:=fun σ H R=>ta σ H fun vs H1=>∃ i j:Int,vs=[.int i,.int j]/\(-(2 ^ 62)<=i/\i < 2 ^ 62/\ -(2 ^ 62)<=j/\j < 2 ^ 62)/\R (Itr i (j - i).toNat) H1
theorem jN {a:Expr}{ta:TA}{p pos:Pos}(hg:Gl X "range") (hm:X.mg "range"=none) (ha:PA X [a] ta) (hs:autoParam (starEach [a] X.env=[(false,eval a X.env)]) Rq0._auto_1):PI X tg (.Call (.Name "range" p) [a] [] pos) (bZ6 ta):=by
 intro pins s σ H R I h
 refine Call_ (kH I hg hm boot_range (gt (cO (ha pos pins s σ H _ I h) ?_) hs rfl));rintro us s1 ⟨vs,H1,I1,r1,q1⟩
 obtain ⟨j,e,q1,q2,q⟩:=q1
 subst e
 cases r1 with
 |cons r rr =>
  cases rr
  obtain ⟨t,rfl⟩:=r
  exact call_range_1 (yV I1 ∅ ∅ q1 q2 (by simpa using q))
theorem aQ6 {a b:Expr}{ta:TA}{p pos:Pos}(hg:Gl X "range") (hm:X.mg "range"=none) (ha:PA X [a,b] ta) (hs:autoParam (starEach [a,b] X.env=[(false,eval a X.env),(false,eval b X.env)]) Rq0._auto_1) (hs2:autoParam (starEach [b] X.env=[(false,eval b X.env)]) Rq0._auto_1) :
  PI X tg (.Call (.Name "range" p) [a,b] [] pos) (cG6 ta):=by
 intro pins s σ H R I h
 refine Call_ (kH I hg hm boot_range (gt (cO (ha pos pins s σ H _ I h) fun us s1 ⟨vs,H1,I1,r1,q1⟩=>?_) (by rw [hs,hs2]) (by rw [hs2];rfl)))
 obtain ⟨i,j,e,⟨q1,q2,q3,q4⟩,q⟩:=q1
 subst e
 cases r1 with
 |cons r rr =>
  cases rr with
  |cons r' rr =>
   cases rr
   obtain ⟨t,rfl⟩:=r
   obtain ⟨t',rfl⟩:=r'
   exact call_range_2 (yV I1 q1 q2 q3 q4 q)
def cG0 (wi:TI) (g:TG) (tb:TS):TS:=fun D σ H=>wi σ H fun J H1=>∃ W:Nat->Nat->St->Hp->Prop,(∃ m,W 0 m σ H1)/\∀ i m σ H,W i m σ H ->
 (J.stop i H/\D.nx σ H)\/(J.go i H/\∃ N:St->Hp->Prop,(∀ σ' H',N σ' H'->∃ m',m' < m/\W (i+1) m' σ' H')/\∀ x H',J.yld i H x H'->g x σ H' fun σ2 H2=>tb { D with nx:=N,ct:=N,bk:=D.nx } σ2 H2)
def iH (fp:List Addr) (h:Heap):List (Addr×Obj):=fp.filterMap fun b=>(h.get? b).map fun o=>(b,o)
theorem iS {fp:List Addr}{h:Heap}{b:Addr}{o:Obj}(hb:b∈fp) (e:h.get? b=some o):(b,o)∈iH fp h:=xa.mpr ⟨b,hb,by rw [e];rfl⟩
theorem vN {fp:List Addr}{h:Heap}{p:Addr×Obj}(hp:p∈iH fp h):p.1∈fp/\h.get? p.1=some p.2:=by
 obtain ⟨b,hb,e⟩:=xa.mp hp
 cases q:h.get? b with
 |none=>rw [q] at e;cases e
 |some o =>
  rw [q] at e
  have e':(b,o)=p:=dm e
  subst e'
  exact ⟨hb,q⟩
theorem aQ.pinned {pins:List (Addr×Obj)}{σ: St}{H:Hp}{s:Shared}{fp:List Addr}(I:aQ X pins σ H s) (hf:∀ b∈fp,kS X pins H b) (ho:∀ b∈fp,∃ o,s.heap.get? b=some o/\∀ v,o.data≠ .cell v):aQ X (pins++iH fp s.heap) σ H s :=
 I.pins_of fun p hp=>(cj.mp hp).elim (fun z=>I.pin p (dh _ z)) fun z=>by
  obtain ⟨hb,e⟩:=vN z
  obtain ⟨f0,f1,f2,_⟩:=hf p.1 hb
  obtain ⟨o,e',d⟩:=ho p.1 hb
  rw [e] at e';cases e'
  exact ⟨e,f0,f1,f2,d⟩
theorem aQ.unpinned {pins pl:List (Addr×Obj)}{σ: St}{H:Hp}{s:Shared}(I:aQ X (pins++pl) σ H s):aQ X pins σ H s:=I.pins_of fun p hp=>I.pin p (dh _ (fu _ hp))
theorem aY5 {iter:Expr}{body:List Stmt}{wi:TI}{g:TG}{tb:TS}{pos:Pos}(hp:PassesOwn (model X.prog X.w) X.A X.env X.xe) (hc:X.calm=true) (hi:PI X tg iter wi) (hg:PG X tg g) (hb:PSs X body tb)
  (hs:autoParam (∀ x,foldedSetIterable iter X.env x=pure x) Rq4._auto_1):PS X (.For tg iter body [] pos) (cG0 wi g tb):=by
 intro pins s σ H D I h
 refine wpAny_For (cO (hi pins s σ H _ I h) fun v s1 h1=>cO h1 fun itv s2 h2=>?_) hs
 obtain ⟨it,fp,tn,J,H2,e,I2,T,st2,f2,W,⟨m0,w0⟩,turn⟩:=h2
 subst e
 have stat:∀ {H':Hp},(∀ b∈fp,H' b=none)->∀ b∈fp,kS X pins H' b:=fun hn b hb=>⟨hn b hb,(f2 b hb).2⟩
 refine codeAny_forLoop_any (fun n s'=>∃ i σ' H',aQ X pins σ' H' s'/\tn i s'.heap/\(∀ b∈fp,H' b=none)/\W i n σ' H') ?_ m0 ⟨0,σ,H2,I2,st2,fun b hb=>(f2 b hb).1,w0⟩
 rintro n s3 ⟨i,σ3,H3,I3,st3,fr3,w3⟩
 rcases turn i n σ3 H3 w3 with ⟨stop,qn⟩ | ⟨go,N,hN,step⟩
 ·refine nj hp (cO (T.done X rfl rfl rfl hc i pins s3 σ3 H3 X.xe I3 (stat fr3) st3 stop) ?_);rintro r s4 ⟨hr,I4⟩
  subst hr
  exact vc ⟨σ3,H3,I4,qn⟩
 ·refine nj hp (cO (T.item X rfl rfl rfl hc i pins s3 σ3 H3 X.xe I3 (stat fr3) st3 go) ?_);rintro r s4 ⟨u,hr,h4⟩
  subst hr
  refine nj hp (cO h4 ?_);rintro _ s5 ⟨x,H5,I5,r5,y5,st5,fr5⟩
  have I5':=I5.pinned (stat fr5) (T.obj _ _ st5)
  refine nj hp (cO (hg _ s5 σ3 H5 x u _ I5' r5 (step x H5 y5)) ?_);rintro _ s6 ⟨σ6,H6,I6,q6⟩
  refine nj hp (cO (hb _ s6 σ6 H6 _ I6 q6) fun f s7 q7=>?_)
  have again:∀ {σ7:St}{H7:Hp},aQ X (pins++iH fp s5.heap) σ7 H7 s7->N σ7 H7->∃ m,m < n/\∃ i σ' H',aQ X pins σ' H' s7/\tn i s7.heap/\(∀ b∈fp,H' b=none)/\W i m σ' H':=fun {σ7 H7} I7 n7=>by
   obtain ⟨m',hm,w7⟩:=hN σ7 H7 n7
   exists m',hm,i+1,σ7,H7,I7.unpinned,T.keep _ _ _ st5 fun b hb o e=>(I7.pin (b,o) (dh _ (dh _ (iS hb e)))).1,fun b hb=>?_,w7
   obtain ⟨o,e,d⟩:=T.obj _ _ st5 b hb
   exact (I7.pin (b,o) (dh _ (dh _ (iS hb e)))).2.1
  cases f with
  |next=>obtain ⟨σ7,H7,I7,n7⟩:=q7;exact again I7 n7
  |cont=>obtain ⟨σ7,H7,I7,n7⟩:=q7;exact again I7 n7
  |brk=>obtain ⟨σ7,H7,I7,q7⟩:=q7;exact ⟨σ7,H7,I7.unpinned,q7⟩
  |ret v=>obtain ⟨x7,σ7,H7,I7,r7,q7⟩:=q7;exact ⟨x7,σ7,H7,I7.unpinned,r7,q7⟩
end
theorem gW {K:PySem.W.Frag}{a:Addr}{xs:List V}{g:TG}{tb:TS}{D:uM}{σ: St}{H:Hp}(Pv:Nat->St->Hp->Prop) (h0:Pv 0 σ H) (hl:∀ i σ H,i<=xs.length->Pv i σ H->bK K H a xs)
  (hs:∀ i x σ H,xs[i]?=some x->Pv i σ H->g x σ H fun σ2 H2=>tb { D with nx:=Pv (i+1),ct:=Pv (i+1),bk:=D.nx } σ2 H2) (hd:∀ σ H,Pv xs.length σ H->D.nx σ H) :
  ∃ W:Nat->Nat->St->Hp->Prop,(∃ m,W 0 m σ H)/\∀ i m σ H,W i m σ H ->
   ((Itl K a).stop i H/\D.nx σ H)\/((Itl K a).go i H/\∃ N:St->Hp->Prop,(∀ σ' H',N σ' H'->∃ m',m' < m/\W (i+1) m' σ' H')/\∀ x H',(Itl K a).yld i H x H'->g x σ H' fun σ2 H2=>tb { D with nx:=N,ct:=N,bk:=D.nx } σ2 H2):=by
 exists fun i m σ H=>m=xs.length - i/\i<=xs.length/\Pv i σ H,⟨xs.length,by simp,df _,h0⟩,?_
 rintro i m σ H ⟨rfl,hi,p⟩
 have q:=hl i σ H hi p
 by_cases hlt:i < xs.length
 ·refine .inr ⟨⟨xs,xs[i],q,by simp [hlt]⟩,Pv (i+1),fun σ' H' p'=>⟨xs.length - (i+1),gk hlt (dy i),rfl,hlt,p'⟩,fun x H' y=>?_⟩
  obtain ⟨e,y⟩:=y
  subst e
  exact hs i x σ _ (y xs q) p
 ·have e:i=xs.length:=∅
  subst e
  exact .inl ⟨⟨xs,q,ao _⟩,hd σ H p⟩
theorem iV {K:PySem.W.Frag}{a:Addr}{xs:List V}{g:TG}{tb:TS}{D:uM}{σ: St}{H:Hp}(Pv:Nat->St->Hp->Prop) (h0:Pv 0 σ H) (hl:∀ i σ H,i<=xs.length->Pv i σ H->aT K H a xs)
  (hs:∀ i x σ H,xs[i]?=some x->Pv i σ H->g x σ H fun σ2 H2=>tb { D with nx:=Pv (i+1),ct:=Pv (i+1),bk:=D.nx } σ2 H2) (hd:∀ σ H,Pv xs.length σ H->D.nx σ H) :
  ∃ W:Nat->Nat->St->Hp->Prop,(∃ m,W 0 m σ H)/\∀ i m σ H,W i m σ H ->
   ((Itt K a).stop i H/\D.nx σ H)\/((Itt K a).go i H/\∃ N:St->Hp->Prop,(∀ σ' H',N σ' H'->∃ m',m' < m/\W (i+1) m' σ' H')/\∀ x H',(Itt K a).yld i H x H'->g x σ H' fun σ2 H2=>tb { D with nx:=N,ct:=N,bk:=D.nx } σ2 H2):=by
 exists fun i m σ H=>m=xs.length - i/\i<=xs.length/\Pv i σ H,⟨xs.length,by simp,df _,h0⟩,?_
 rintro i m σ H ⟨rfl,hi,p⟩
 have q:=hl i σ H hi p
 by_cases hlt:i < xs.length
 ·refine .inr ⟨⟨xs,xs[i],q,by simp [hlt]⟩,Pv (i+1),fun σ' H' p'=>⟨xs.length - (i+1),gk hlt (dy i),rfl,hlt,p'⟩,fun x H' y=>?_⟩
  obtain ⟨e,y⟩:=y
  subst e
  exact hs i x σ _ (y xs q) p
 ·have e:i=xs.length:=∅
  subst e
  exact .inl ⟨⟨xs,q,ao _⟩,hd σ H p⟩
theorem pC {lo:Int}{n:Nat}{g:TG}{tb:TS}{D:uM}{σ: St}{H:Hp}(Pv:Nat->St->Hp->Prop) (h0:Pv 0 σ H)
  (hs:∀ i σ H,i < n->Pv i σ H->g (.int (lo+i)) σ H fun σ2 H2=>tb { D with nx:=Pv (i+1),ct:=Pv (i+1),bk:=D.nx } σ2 H2) (hd:∀ σ H,Pv n σ H->D.nx σ H) :
  ∃ W:Nat->Nat->St->Hp->Prop,(∃ m,W 0 m σ H)/\∀ i m σ H,W i m σ H ->
   ((Itr lo n).stop i H/\D.nx σ H)\/((Itr lo n).go i H/\∃ N:St->Hp->Prop,(∀ σ' H',N σ' H'->∃ m',m' < m/\W (i+1) m' σ' H')/\∀ x H',(Itr lo n).yld i H x H'->g x σ H' fun σ2 H2=>tb { D with nx:=N,ct:=N,bk:=D.nx } σ2 H2):=by
 exists fun i m σ H=>m=n - i/\i<=n/\Pv i σ H,⟨n,by simp,df _,h0⟩,?_
 rintro i m σ H ⟨rfl,hi,p⟩
 by_cases hlt:i < n
 ·refine .inr ⟨hlt,Pv (i+1),fun σ' H' p'=>⟨n - (i+1),gk hlt (dy i),rfl,hlt,p'⟩,fun x H' y=>?_⟩
  obtain ⟨e,y⟩:=y
  subst e y
  exact hs i σ _ hlt p
 ·have e:i=n:=∅
  subst e
  exact .inl ⟨ao _,hd σ H p⟩
abbrev R2:=V->V->Hp->VK->Prop
def jX (X:Cx) (f:Value->Value->Sem Value) (r:R2):Prop :=
 ∀ (pins:List (Addr×Obj)) (s:Shared) (σ: St) (H:Hp) (x y:V) (v u:Value) (Q:VK),aQ X pins σ H s->aX x v->aX y u->r x y H Q ->
  wpAny (model X.prog X.w) X.A (f v u) (EP X pins σ Q) X.xe s
def UnR (X:Cx) (f:Value->Sem Value) (r:V->Hp->VK->Prop):Prop :=
 ∀ (pins:List (Addr×Obj)) (s:Shared) (σ: St) (H:Hp) (x:V) (v:Value) (Q:VK),aQ X pins σ H s->aX x v->r x H Q ->
  wpAny (model X.prog X.w) X.A (f v) (EP X pins σ Q) X.xe s
def dL (X:Cx) (f:Value) (r:List V->Hp->VK->Prop):Prop :=
 ∀ (pins:List (Addr×Obj)) (s:Shared) (σ: St) (H:Hp) (xs:List V) (us:List Value) (Q:VK),aQ X pins σ H s->bB xs us->r xs H Q ->
  wpAny (model X.prog X.w) X.A (call f us) (EP X pins σ Q) X.xe s
def tOp (r:R2) (ta tb:TE):TE:=fun σ H Q=>ta σ H fun x H1=>tb σ H1 fun y H2=>r x y H2 Q
def tUn (r:V->Hp->VK->Prop) (ta:TE):TE:=fun σ H Q=>ta σ H fun x H1=>r x H1 Q
def rI (C:Int->Int->Prop) (g:Int->Int->V):R2:=fun x y H Q=>∃ i j,x= .int i/\y= .int j/\C i j/\Q (g i j) H
def rI0 (g:Int->Int->V):R2:=fun x y H Q=>∃ i j,x= .int i/\y= .int j/\Q (g i j) H
def rU (g:Int->V):V->Hp->VK->Prop:=fun x H Q=>∃ i,x= .int i/\Q (g i) H
section
variable {X:Cx}{a b c:Expr}{ta tb tc:TE}{pos:Pos}
theorem bR7 (ha:PE X a ta) (hb:PE X b tb) {pins:List (Addr×Obj)}{s:Shared}{σ: St}{H:Hp}{R:V->V->Hp->Prop}(I:aQ X pins σ H s)
  (h:ta σ H fun x H1=>tb σ H1 fun y H2=>R x y H2) {Q:Value->Shared->Prop}{f:Value->Value->Sem Value}
  (hf:∀ v u s2 x y H2,aQ X pins σ H2 s2->aX x v->aX y u->R x y H2->wpAny (model X.prog X.w) X.A (f v u) Q X.xe s2) :
  wpAny (model X.prog X.w) X.A (eval a X.env) (fun v s₁=>wpAny (model X.prog X.w) X.A (eval b X.env) (fun u s₂=>wpAny (model X.prog X.w) X.A (f v u) Q X.xe s₂) X.xe s₁) X.xe s:=by
 refine cO (ha pins s σ H _ I h) ?_;rintro v s1 ⟨x,H1,I1,r1,q1⟩
 refine cO (hb pins s1 σ H1 _ I1 q1) ?_;rintro u s2 ⟨y,H2,I2,r2,q2⟩
 exact hf v u s2 x y H2 I2 r1 r2 q2
theorem aR {op:Operator}{r:R2}(ho:jX X (binaryOp op) r) (ha:PE X a ta) (hb:PE X b tb):PE X (.BinOp a op b pos) (tOp r ta tb):=by
 intro pins s σ H Q I h
 exact wpAny_BinOp (bR7 ha hb I h fun v u s2 x y H2 I2 rx ry q=>ho pins s2 σ H2 x y v u Q I2 rx ry q)
theorem cB1 {op:UnaryOp}{r:V->Hp->VK->Prop}(ho:UnR X (unaryOp op) r) (ha:PE X a ta):PE X (.UnaryOp op a pos) (tUn r ta):=by
 intro pins s σ H Q I h
 refine UnaryOp_ (cO (ha pins s σ H _ I h) ?_);rintro v s1 ⟨x,H1,I1,r1,q1⟩;exact ho pins s1 σ H1 x v Q I1 r1 q1
theorem opI {f:Value->Value->Sem Value}{C:Int->Int->Prop}{g:Int->Int->Int}
  (rule:∀ (i j:Int) (t u:Tok) (s:Shared) (Q:Value->Shared->Prop) (E:Value->Shared->Prop),C i j->Q (.int (g i j) s.toks) { s with toks:=s.toks+1 }->wpAny (model X.prog X.w) X.A (f (.int i t) (.int j u)) Q E s) :
  jX X f (rI C fun i j=> .int (g i j)):=by
 intro pins s σ H x y v u Q I rx ry h
 obtain ⟨i,j,rfl,rfl,hc,q⟩:=h
 obtain ⟨t,rfl⟩:=rx
 obtain ⟨t',rfl⟩:=ry
 exact rule i j t t' s _ _ hc ⟨.int (g i j),H,I.tok _,⟨_,rfl⟩,q⟩
theorem cA5 {f:Value->Value->Sem Value}{g:Int->Int->Int}
  (rule:∀ (i j:Int) (t u:Tok) (s:Shared) (Q:Value->Shared->Prop) (E:Value->Shared->Prop),Q (.int (g i j) s.toks) { s with toks:=s.toks+1 }->wpAny (model X.prog X.w) X.A (f (.int i t) (.int j u)) Q E s) :
  jX X f (rI0 fun i j=> .int (g i j)):=by
 intro pins s σ H x y v u Q I rx ry h
 obtain ⟨i,j,rfl,rfl,q⟩:=h
 obtain ⟨t,rfl⟩:=rx
 obtain ⟨t',rfl⟩:=ry
 exact rule i j t t' s _ _ ⟨.int (g i j),H,I.tok _,⟨_,rfl⟩,q⟩
theorem bJ6 {f:Value->Value->Sem Value}{g:Int->Int->Bool}
  (rule:∀ (i j:Int) (t u:Tok) (s:Shared) (Q:Value->Shared->Prop) (E:Value->Shared->Prop),Q (.bool (g i j)) s->wpAny (model X.prog X.w) X.A (f (.int i t) (.int j u)) Q E s) :
  jX X f (rI0 fun i j=> .bl (g i j)):=by
 intro pins s σ H x y v u Q I rx ry h
 obtain ⟨i,j,rfl,rfl,q⟩:=h
 obtain ⟨t,rfl⟩:=rx
 obtain ⟨t',rfl⟩:=ry
 exact rule i j t t' s _ _ ⟨.bl (g i j),H,I,rfl,q⟩
def cJ1 (i j:Int):Prop:=0<=j/\j<=1000000/\i.natAbs < 2 ^ 64
def bY4 (i j:Int):Prop:=(-(2 ^ 64) < i/\i < 2 ^ 64)\/(-(2 ^ 64) < j/\j < 2 ^ 64)
theorem bY4.ok {i j:Int}(h:bY4 i j):IntMulOk i j:=by
 rcases h with ⟨h1,h2⟩ | ⟨h1,h2⟩
 ·exact .of_left (intBits_le_64 h1 h2)
 ·exact .of_right (intBits_le_64 h1 h2)
theorem fH:jX X (binaryOp .Add) (rI0 fun i j=> .int (i+j)):=cA5 fun _ _ _ _ _ _ _ q=>add_int q
theorem pF:jX X (binaryOp .Sub) (rI0 fun i j=> .int (i - j)):=cA5 fun _ _ _ _ _ _ _ q=>sub_int q
theorem lS:jX X (binaryOp .Mult) (rI bY4 fun i j=> .int (i * j)):=opI fun _ _ _ _ _ _ _ hc q=>mul_int q hc.ok
theorem jE:jX X (binaryOp .Mod) (rI (fun _ j=>0 < j) fun i j=> .int (i % j)):=opI fun i j _ _ _ _ _ hc q=>by
 have h1:(0:Int) < j:=hc
 exact mod_int' ∅ (by rw [Int.fmod_eq_emod_of_nonneg i ∅];exact q)
theorem aC9:jX X (binaryOp .Pow) (rI cJ1 fun i j=> .int (i ^ j.toNat)):=opI fun _ _ _ _ _ _ _ hc q=>pow_int_small hc.1 hc.2.1 hc.2.2 q
theorem unI {f:Value->Sem Value}{g:Int->Int}
  (rule:∀ (i:Int) (t:Tok) (s:Shared) (Q:Value->Shared->Prop) (E:Value->Shared->Prop),Q (.int (g i) s.toks) { s with toks:=s.toks+1 }->wpAny (model X.prog X.w) X.A (f (.int i t)) Q E s) :
  UnR X f (rU fun i=> .int (g i)):=by
 intro pins s σ H x v Q I rx h
 obtain ⟨i,rfl,q⟩:=h
 obtain ⟨t,rfl⟩:=rx
 exact rule i t s _ _ ⟨.int (g i),H,I.tok _,⟨_,rfl⟩,q⟩
theorem bT8:UnR X (unaryOp .USub) (rU fun i=> .int (-i)):=unI fun _ _ _ _ _ q=>neg_int q
end
def bZ9:V->V->Bool
 |.non,.non=>true | .non,.int _=>true | .int _,.non=>true | .non,.bl _=>true | .bl _,.non=>true | .non,.str _=>true | .str _,.non=>true
 |.int _,.int _=>true | .bl _,.bl _=>true | .str _,.str _=>true | .byt _,.byt _=>true
 |.int _,.str _=>true | .str _,.int _=>true | .bl _,.str _=>true | .str _,.bl _=>true
 |_,_=>false
def rEq:R2:=fun x y H Q=>bZ9 x y=true/\Q (.bl (decide (x=y))) H
def rNe:R2:=fun x y H Q=>bZ9 x y=true/\Q (.bl (!decide (x=y))) H
theorem aI8 {i j:Int}:decide (V.int i=V.int j)=(i == j):=by
 rw [jn]
 simp
theorem aS7 {i j:Bool}:decide (V.bl i=V.bl j)=(i == j):=by
 rw [jn]
 simp
theorem aL9 {i j:Str}:decide (V.str i=V.str j)=(i == j):=by
 rw [jn]
 simp
theorem aK7 {i j:Array UInt8}:decide (V.byt i=V.byt j)=(i.toList == j.toList):=by
 rw [jn]
 cases i
 cases j
 simp
section
variable {X:Cx}{a b c:Expr}{ta tb tc:TE}{pos:Pos}
theorem cA {pins:List (Addr×Obj)}{σ: St}{H:Hp}{s:Shared}{Q:VK}{k k':Bool}(I:aQ X pins σ H s) (q:Q (.bl k) H) (e:k=k'):EP X pins σ Q (.bool k') s:=by
 subst e
 exact ⟨.bl k,H,I,rfl,q⟩
theorem iR:jX X (compareOp .Eq) rEq:=by
 intro pins s σ H x y v u Q I rx ry h
 obtain ⟨hs,q⟩:=h
 cases x with
 |non =>
  cases rx
  cases y with
  |non=>cases ry;exact PySem.EqNone.eq_none_none (cA I q (by simp))
  |bl j=>cases ry;exact PySem.EqNone.eq_none_bool (cA I q (by simp))
  |int j=>obtain ⟨t',rfl⟩:=ry;exact PySem.EqNone.eq_none_int (cA I q (by simp))
  |str j=>obtain ⟨t',rfl⟩:=ry;exact PySem.EqNone.eq_none_str (cA I q (by simp))
  |_=>exact absurd (show false=true from hs) du
 |bl i =>
  cases rx
  cases y with
  |non=>cases ry;exact PySem.EqNone.eq_bool_none (cA I q (by simp))
  |bl j=>cases ry;exact eq_bool (cA I q aS7)
  |str j=>obtain ⟨t',rfl⟩:=ry;exact PySem.EqMixed.eq_bool_str (cA I q (by simp))
  |_=>exact absurd (show false=true from hs) du
 |int i =>
  obtain ⟨t,rfl⟩:=rx
  cases y with
  |non=>cases ry;exact PySem.EqNone.eq_int_none (cA I q (by simp))
  |int j=>obtain ⟨t',rfl⟩:=ry;exact eq_int (cA I q aI8)
  |str j=>obtain ⟨t',rfl⟩:=ry;exact PySem.EqMixed.eq_int_str (cA I q (by simp))
  |_=>exact absurd (show false=true from hs) du
 |str i =>
  obtain ⟨t,rfl⟩:=rx
  cases y with
  |non=>cases ry;exact PySem.EqNone.eq_str_none (cA I q (by simp))
  |bl j=>cases ry;exact PySem.EqMixed.eq_str_bool (cA I q (by simp))
  |int j=>obtain ⟨t',rfl⟩:=ry;exact PySem.EqMixed.eq_str_int (cA I q (by simp))
  |str j=>obtain ⟨t',rfl⟩:=ry;exact eq_str (cA I q aL9)
  |_=>exact absurd (show false=true from hs) du
 |byt i =>
  obtain ⟨t,rfl⟩:=rx
  cases y with
  |byt j=>obtain ⟨t',rfl⟩:=ry;exact PySem.W.eq_bytes (cA I q aK7)
  |_=>exact absurd (show false=true from hs) du
 |_=>cases y <;> exact absurd (show false=true from hs) du
theorem uO:jX X (compareOp .NotEq) rNe:=by
 intro pins s σ H x y v u Q I rx ry h
 obtain ⟨hs,q⟩:=h
 cases x with
 |non =>
  cases rx
  cases y with
  |non=>cases ry;exact PySem.EqNone.ne_none_none (cA I q (by simp))
  |bl j=>cases ry;exact PySem.EqNone.ne_none_bool (cA I q (by simp))
  |int j=>obtain ⟨t',rfl⟩:=ry;exact PySem.EqNone.ne_none_int (cA I q (by simp))
  |str j=>obtain ⟨t',rfl⟩:=ry;exact PySem.EqNone.ne_none_str (cA I q (by simp))
  |_=>exact absurd (show false=true from hs) du
 |bl i =>
  cases rx
  cases y with
  |non=>cases ry;exact PySem.EqNone.ne_bool_none (cA I q (by simp))
  |bl j=>cases ry;exact ne_bool (cA I q (ed not aS7))
  |str j=>obtain ⟨t',rfl⟩:=ry;exact PySem.EqMixed.ne_bool_str (cA I q (by simp))
  |_=>exact absurd (show false=true from hs) du
 |int i =>
  obtain ⟨t,rfl⟩:=rx
  cases y with
  |non=>cases ry;exact PySem.EqNone.ne_int_none (cA I q (by simp))
  |int j=>obtain ⟨t',rfl⟩:=ry;exact ne_int (cA I q (ed not aI8))
  |str j=>obtain ⟨t',rfl⟩:=ry;exact PySem.EqMixed.ne_int_str (cA I q (by simp))
  |_=>exact absurd (show false=true from hs) du
 |str i =>
  obtain ⟨t,rfl⟩:=rx
  cases y with
  |non=>cases ry;exact PySem.EqNone.ne_str_none (cA I q (by simp))
  |bl j=>cases ry;exact PySem.EqMixed.ne_str_bool (cA I q (by simp))
  |int j=>obtain ⟨t',rfl⟩:=ry;exact PySem.EqMixed.ne_str_int (cA I q (by simp))
  |str j=>obtain ⟨t',rfl⟩:=ry;exact ne_str (cA I q (ed not aL9))
  |_=>exact absurd (show false=true from hs) du
 |byt i =>
  obtain ⟨t,rfl⟩:=rx
  cases y with
  |byt j=>obtain ⟨t',rfl⟩:=ry;exact PySem.W.ne_bytes (cA I q (ed not aK7))
  |_=>exact absurd (show false=true from hs) du
 |_=>cases y <;> exact absurd (show false=true from hs) du
theorem mW:jX X (compareOp .Lt) (rI0 fun i j=> .bl (decide (i < j))):=bJ6 fun _ _ _ _ _ _ _ q=>lt_int q
theorem cF0:jX X (compareOp .LtE) (rI0 fun i j=> .bl (decide (i<=j))):=bJ6 fun _ _ _ _ _ _ _ q=>le_int q
theorem lK:jX X (compareOp .Gt) (rI0 fun i j=> .bl (decide (j < i))):=bJ6 fun _ _ _ _ _ _ _ q=>gt_int q
theorem bZ8:jX X (compareOp .GtE) (rI0 fun i j=> .bl (decide (j<=i))):=bJ6 fun _ _ _ _ _ _ _ q=>ge_int q
theorem qD (b:Expr) {op:CmpOp}(h:autoParam (op≠ .In) Rq1._auto_1) (h2:autoParam (op≠ .NotIn) Rq1._auto_1):behindInMarks op b=false:=by
 have e1:(op == CmpOp.In)=false:=by cases op <;> first | rfl | exact absurd rfl h
 have e2:(op == CmpOp.NotIn)=false:=by cases op <;> first | rfl | exact absurd rfl h2
 cases b <;> simp [behindInMarks,e1,e2]
theorem bI8 {op:CmpOp}{r:R2}(ho:jX X (compareOp op) r) (ha:PE X a ta) (hb:PE X b tb) (hm:behindInMarks op b=false):PE X (.Compare a [op] [b] pos) (tOp r ta tb):=by
 intro pins s σ H Q I h
 exact wpAny_Compare1 (bR7 ha hb I h fun v u s2 x y H2 I2 rx ry q=>ho pins s2 σ H2 x y v u Q I2 rx ry q) hm
def bN1 (t:TE):TT:=fun σ H Q=>t σ H fun x H'=>∃ k,x= .bl k/\Q k H'
theorem oU {op:CmpOp}{r:R2}(ho:jX X (compareOp op) r) (ha:PE X a ta) (hb:PE X b tb) (hm:behindInMarks op b=false):PT X (.Compare a [op] [b] pos) (bN1 (tOp r ta tb)):=by
 intro pins s σ H Q I h
 refine aAe (cO (ha pins s σ H _ I h) fun v s1 ⟨x,H1,I1,r1,q1⟩=>cO (hb pins s1 σ H1 _ I1 q1) fun u s2 ⟨y,H2,I2,r2,q2⟩ =>
  cO (ho pins s2 σ H2 x y v u _ I2 r1 r2 q2) fun c s3 ⟨z,H3,I3,r3,k,e,q3⟩=>?_) hm
 subst e
 cases r3
 exact jl ⟨H3,I3,q3⟩
theorem yK:(sizeLine:Nat) < 2 ^ 63:=by rw [qz];decide
theorem gT {x:V}{us:List Value}(r:bB [x] us):∃ u,us=[u]/\aX x u:=by
 cases r with
 |cons r1 r2=>cases r2;exact ⟨_,rfl,r1⟩
theorem tV {x y:V}{us:List Value}(r:bB [x,y] us):∃ u w',us=[u,w']/\aX x u/\aX y w':=by
 cases r with
 |cons r1 r2 =>
  cases r2 with
  |cons r3 r4=>cases r4;exact ⟨_,_,rfl,r1,r3⟩
theorem aN2 (hc:X.calm=true):dL X (.builtin "max") (fun xs H Q=>∃ i j,xs=[.int i,.int j]/\Q (.int (if j > i then j else i)) H):=by
 intro pins s σ H xs us Q I r h
 obtain ⟨i,j,rfl,q⟩:=h
 obtain ⟨u,w',rfl,⟨t,rfl⟩,⟨t',rfl⟩⟩:=tV r
 refine max_two_ints (I.ok.hd hc) fun h' tk k=>⟨_,H,I.kept k,?_,q⟩
 by_cases hj:j > i
 ·rw [bh hj,bh hj];exact ⟨_,rfl⟩
 ·rw [ap hj,ap hj];exact ⟨_,rfl⟩
end
structure aO8 (h:Heap) (x dx C:Addr) (mA:Str->Option Value):Prop where
 obj:h.get? x=some (PySem.W.instObj C dx)
 ns:h.Ns1 dx mA
 ne:dx≠x
theorem aS2 {h:Heap}{dx:Addr}{mA:Str->Option Value}(n:h.Ns1 dx mA):∃ od,h.get? dx=some od/\∀ name,PySem.W.lookIn name od=some (mA name):=by
 obtain ⟨o,es,ep,ho,hd,hk,_,hm⟩:=n
 exists o,ho,fun name=>?_
 have e:=hm name
 unfold nsFind findBy at e
 rw [<- Array.find?_toList] at e
 unfold PySem.W.lookIn
 rw [hd]
 dsimp only
 split
 ·rename_i y q
  rw [q] at e
  exact ed some e
 ·rename_i q
  rw [q] at e
  have a:es.toList.any (·.refKey)=false:=by
   rw [List.any_eq_false]
   intro y hy
   obtain ⟨z,t,hkey⟩:=hk y (Array.mem_toList_iff.mp hy)
   simp [DictEntry.refKey,hkey]
  have a':¬ es.toList.any (·.refKey)=true:=by rw [a];exact du
  rw [ap a']
  exact ed some e
theorem aO8.look {h:Heap}{x dx C:Addr}{mA:Str->Option Value}(I:aO8 h x dx C mA):∃ od,PySem.W.InstAt h x (PySem.W.instObj C dx) C (some od)/\∀ name,PySem.W.lookIn name od=some (mA name) :=by
 obtain ⟨od,ho,hl⟩:=aS2 I.ns
 exact ⟨od,⟨I.obj,rfl,rfl,ho⟩,hl⟩
section
variable {prog:Program}{w:World}{A:Around}{E:Value->Shared->Prop}{s:Shared}{K:PySem.W.Frag}{x dx C f:Addr}{mA:Str->Option Value}{name:Str}{v:Value}
theorem bI4 {expr:Bool}{Q:Value->Shared->Prop}(X:K.In s.heap) (I:aO8 s.heap x dx C mA) (hg:PySem.W.plainGet K C name=true) (hh:PySem.W.hasDictIn K C=true)
  (ha:PySem.W.findIn K (.ref C) name=some none) (hv:mA name=some v) (hv':PySem.W.handedIn v=true) (h:Q v { s with toks:=s.toks+1 }) :
  wpAny (model prog w) A (getAttr (.ref x) name expr) Q E s:=by
 obtain ⟨od,J,hl⟩:=I.look
 exact PySem.W.get_value X J (PySem.W.plainGet_of hg).1 (PySem.W.findObj_own hh ha rfl (by rw [hl,hv])) hv' h
theorem aL2 {ns:List Str}{Q:Unit->Shared->Prop}(X:K.In s.heap) (I:aO8 s.heap x dx C mA)
  (hs:PySem.W.findIn K (.ref C) "__setattr__"=some (some (.builtin "object.__setattr__"))) (hp:PySem.W.plainOver K C=true) (ht:PySem.W.takerIn K C name=some none) (hh:PySem.W.hasDictIn K C=true)
  (hw:PySem.Within mA ns) (hsz:ns.length<=sizeLine)
  (h:∀ h',aO8 h' x dx C (fun y=>if y=name then some v else mA y)->Heap.SameBut dx s.heap h'->Q () { s with heap:=h',toks:=s.toks+2 }) :
  wpAny (model prog w) A (setAttr (.ref x) name v) Q E s:=by
 obtain ⟨od,J,hl⟩:=I.look
 refine PySem.W.set_plain X J hs (PySem.W.osa_open (s:={ s with toks:=s.toks+1 }) (r:=none) X J hp ht fun b=>?_)
 obtain ⟨cd,hc,hd'⟩:=PySem.W.any_some hh
 have hx:s.heap.get? x=some ⟨.ref C,some dx,.plain, #[]⟩:=I.obj
 refine aa (aj (aa (aa (wpAny_loadPart hx (aa (PySem.W.Looks.here (s:={ s with toks:=s.toks+1 }) (PySem.W.looks_clsIn X hc) ?_))))))
 rw [hd']
 refine aj (a:=some dx) (aa (aj (aa ?_)))
 refine wpAny_nsSet1 (s:={ s with toks:=s.toks+1 }) I.ns fun h' hn2 hs2=>?_
 obtain ⟨oD,esD,epD,hoD,hdD,hcD⟩:=hn2.count (PySem.Within.cons name v hw)
 refine aa (wpAny_lookBehind hoD (by rw [hdD];exact pastItsLine_dict (cy hcD (by rw [dq];omega))) ?_)
 exact aj (h _ ⟨(hs2.2 _ (Ne.symm I.ne)).trans I.obj,hn2,I.ne⟩ hs2)
theorem bD3 {R:Result->Shared->Prop}{vs:List Value}{kw:List (Str×Value)}(X:K.In s.heap) (hm:PySem.W.makesIn K C=true)
  (hi:PySem.W.findIn K (.ref C) "__init__"=some (some (.ref f))) (hf:PySem.W.typeIn K (.ref f)=some (.type "function"))
  (h:codeAny (model prog w) (A.under (.builtin "type.__call__" ⟨.ref C :: vs,kw⟩)) (.call (.ref f) ⟨.ref (s.heap.objs.size+1) :: vs,kw⟩) (PySem.W.InitBack (s.heap.objs.size+1) R)
   { s with heap:=(s.heap.push PySem.W.emptyDict).push (PySem.W.instObj C s.heap.objs.size) }) :
  codeAny (model prog w) A (.call (.ref C) ⟨vs,kw⟩) R s:=by
 obtain ⟨hh,g,d,t,os⟩:=s
 exact PySem.W.make_core (PySem.W.makes_of X hm) (PySem.W.looks_findIn X hi) (fun self=>PySem.W.bind_fn X self hf) (.inl rfl) h
end
def eU (f:Str) (v:V):List (Str×V)->List (Str×V)
 |[]=>[(f,v)]
 |(g,x) :: r=>if g=f then (g,v) :: r else (g,x) :: eU f v r
theorem lV (f g:Str) (v:V):∀ fs:List (Str×V),(eU f v fs).lookup g=if g=f then some v else fs.lookup g
 |[]=>by
  show List.lookup g [(f,v)]=_
  by_cases h:g=f
  ·have hb:(g == f)=true:=xy.mpr h
   simp only [List.lookup,hb,if_pos h]
  ·have hb:(g == f)=false:=jq.mpr h
   simp only [List.lookup,hb,if_neg h]
 |(k,x) :: r=>by
  have ih:=lV f g v r
  rw [show eU f v ((k,x) :: r)=(if k=f then (k,v) :: r else (k,x) :: eU f v r) from rfl]
  by_cases hk:k=f
  ·rw [bh hk]
   by_cases h:g=k
   ·have hb:(g == k)=true:=xy.mpr h
    simp only [List.lookup,hb,if_pos (h.trans hk)]
   ·have hb:(g == k)=false:=jq.mpr h
    simp only [List.lookup,hb,if_neg (fun e:g=f=>h (e.trans hk.symm))]
  ·rw [ap hk]
   by_cases h:g=k
   ·have hb:(g == k)=true:=xy.mpr h
    simp only [List.lookup,hb,if_neg (fun e:g=f=>hk (h.symm.trans e))]
   ·have hb:(g == k)=false:=jq.mpr h
    simp only [List.lookup,hb]
    exact ih
theorem qF (f:Str) (v:V):∀ fs:List (Str×V),f∈(eU f v fs).map (·.1)/\∀ g,g∈fs.map (·.1)->g∈(eU f v fs).map (·.1)
 |[]=>⟨by simp [eU],fun g h=>by simp at h⟩
 |(k,x) :: r=>by
  obtain ⟨i1,i2⟩:=qF f v r
  rw [show eU f v ((k,x) :: r)=(if k=f then (k,v) :: r else (k,x) :: eU f v r) from rfl]
  by_cases hk:k=f
  ·rw [bh hk]
   subst hk
   exact ⟨by simp,fun g h=>by simpa using h⟩
  ·rw [ap hk]
   exists ?_,fun g h=>?_
   ·rw [au]
    exact ba _ i1
   ·rw [au] at h ⊢
    rcases bo.mp h with e | e
    ·exact bo.mpr (.inl e)
    ·exact ba _ (i2 g e)
theorem qR (f:Str) (v:V):∀ fs:List (Str×V),(eU f v fs).length<=fs.length+1
 |[]=>by simp [eU]
 |(k,x) :: r=>by
  have ih:=qR f v r
  rw [show eU f v ((k,x) :: r)=(if k=f then (k,v) :: r else (k,x) :: eU f v r) from rfl]
  by_cases hk:k=f
  ·rw [bh hk,dq,dq];omega
  ·rw [ap hk,dq,dq];omega
theorem hE.some_of {v:V}{o:Option Value}(r:hE (some v) o):∃ u,o=some u/\aX v u:=by
 cases o with
 |none=>exact (show False from r).elim
 |some u=>exact ⟨u,rfl,r⟩
theorem hE.none_of {o:Option Value}(r:hE none o):o=none:=by
 cases o with
 |none=>rfl
 |some u=>exact (show False from r).elim
theorem aP5 {v:V}{u:Value}(r:aX v u):PySem.W.handedIn u=true:=by
 cases v with
 |non=>cases (show u=Value.none from r);rfl
 |bl b=>cases (show u=Value.bool b from r);rfl
 |int i=>obtain ⟨t,e⟩:=(show ∃ t,u=Value.int i t from r);cases e;rfl
 |str x=>obtain ⟨t,e⟩:=(show ∃ t,u=Value.str x t from r);cases e;rfl
 |byt b=>obtain ⟨t,e⟩:=(show ∃ t,u=Value.bytes b t from r);cases e;rfl
 |flt b=>obtain ⟨t,e⟩:=(show ∃ t,u=Value.float b t from r);cases e;rfl
 |ref a=>cases (show u=Value.ref a from r);rfl
 |ty n=>cases (show u=Value.type n from r);rfl
section
variable {P:Program}{w:World}{H H':Hp}{h h':Heap}{a C dx:Addr}{fs fs':List (Str×V)}
theorem yN (hok:lX P w H h) (e:H a=some (.ins C dx fs)):∃ mA,aO8 h a dx C mA/\(∀ f,hE (fs.lookup f) (mA f))/\PySem.Within mA (fs.map (·.1))/\fs.length<=1000/\H dx=some (.own a):=by
 obtain ⟨d,z,ne,ob,mA,n,r,q⟩:=(show bO P w H h a (.ins C dx fs) from hok a _ e)
 exact ⟨mA,⟨ob,n,ne⟩,r,q,z,d⟩
end
structure Cls (K:PySem.W.Frag) (C:Addr):Prop where
 pg:PySem.W.plainGet K C Str.empty=true
 hd:PySem.W.hasDictIn K C=true
 po:PySem.W.plainOver K C=true
 sa:PySem.W.findIn K (.ref C) "__setattr__"=some (some (.builtin "object.__setattr__"))
theorem Cls.get {K:PySem.W.Frag}{C:Addr}(c:Cls K C) (f:Str):PySem.W.plainGet K C f=true:=c.pg
def iQ (K:PySem.W.Frag) (C:Addr) (f:Str):Prop:=PySem.W.findIn K (.ref C) f=some none
theorem iQ.taker {K:PySem.W.Frag}{C:Addr}{f:Str}(n:iQ K C f):PySem.W.takerIn K C f=some none:=by
 unfold PySem.W.takerIn
 rw [show PySem.W.findIn K (.ref C) f=some none from n]
 rfl
section
variable {X:Cx}{pins:List (Addr×Obj)}{σ: St}{H:Hp}{s:Shared}{a C dx:Addr}{fs:List (Str×V)}{f:Str}{v:V}{A:Around}{E:Value->Shared->Prop}
theorem aI2 {b:Bool}{Q:Value->Shared->Prop}(I:aQ X pins σ H s) (e:H a=some (.ins C dx fs)) (c:Cls X.K C) (n:iQ X.K C f) (l:fs.lookup f=some v)
  (h:∀ u s',aQ X pins σ H s'->aX v u->Q u s'):wpAny (model X.prog X.w) A (getAttr (.ref a) f b) Q E s:=by
 obtain ⟨mA,O,r,_,_,_⟩:=yN I.hok e
 obtain ⟨u,hu,ru⟩:=hE.some_of (v:=v) (o:=mA f) (by rw [<- l];exact r f)
 exact bI4 I.kIn O (c.get f) c.hd n hu (aP5 ru) (h u _ (I.tok _) ru)
theorem aD0 {y:V}{u:Value}{Q:Unit->Shared->Prop}(I:aQ X pins σ H s) (e:H a=some (.ins C dx fs)) (c:Cls X.K C) (n:iQ X.K C f) (hl:fs.length < 1000) (ry:aX y u)
  (h:∀ s',aQ X pins σ (aJ H a (.ins C dx (eU f y fs))) s'->Q () s'):wpAny (model X.prog X.w) A (setAttr (.ref a) f u) Q E s:=by
 obtain ⟨mA,O,r,wi,_,ho⟩:=yN I.hok e
 have hz:(fs.map (·.1)).length<=sizeLine:=by rw [ae,qz];omega
 refine aL2 I.kIn O c.sa c.po n.taker c.hd wi hz fun h' O' sb=>h _ ?_
 have hd:∃ o,h'.get? dx=some o:=by obtain ⟨o,_,_,e',_⟩:=O'.ns;exact ⟨o,e'⟩
 refine I.write (x:=a) (e:=dx) (by rw [e];exact gm) (.inr ho) (fun b q hb z=>(sb.2 b hb).trans z) hd ?_
 exists by rw [aE O.ne];exact ho,?_,O.ne,O'.obj,_,O'.ns,fun g=>?_,fun g hg=>?_
 ·have:=qR f y fs;omega
 ·show hE ((eU f y fs).lookup g) (if g=f then some u else mA g)
  rw [lV]
  by_cases q:g=f
  ·rw [bh q,bh q];exact ry
  ·rw [ap q,ap q];exact r g
 ·by_cases q:g=f
  ·rw [q];exact (qF f y fs).1
  ·refine (qF f y fs).2 g (wi g fun z=>hg ?_)
   show (if g=f then some u else mA g)=none
   rw [ap q];exact z
theorem aQ.made (I:aQ X pins σ H s):aQ X pins σ (aJ (aJ H s.heap.objs.size (.own (s.heap.objs.size+1))) (s.heap.objs.size+1) (.ins C s.heap.objs.size []))
  { s with heap:=(s.heap.push PySem.W.emptyDict).push (PySem.W.instObj C s.heap.objs.size) }:=by
 have e1:(s.heap.push PySem.W.emptyDict).get? s.heap.objs.size=some PySem.W.emptyDict:=aq s.heap rfl
 have e2:((s.heap.push PySem.W.emptyDict).push (PySem.W.instObj C s.heap.objs.size)).get? (s.heap.objs.size+1)=some (PySem.W.instObj C s.heap.objs.size):=by
  have:=aq (s.heap.push PySem.W.emptyDict) (o:=PySem.W.instObj C s.heap.objs.size) rfl
  rwa [ip] at this
 have e3:(s.heap.push PySem.W.emptyDict).Ns s.heap.objs.size (fun _=>none):=⟨PySem.W.emptyDict, #[],_,e1,rfl,(fun e he=>absurd he (by simp)),fun _=>rfl⟩
 have I1:=I.laid (a:=s.heap.objs.size) (o:= .own (s.heap.objs.size+1)) (h':=s.heap.push PySem.W.emptyDict) (t':=s.toks) (fun b u q=>af _ q) (ao _) ⟨_,e1⟩
 refine I1.laid (a:=s.heap.objs.size+1) (o:= .ins C s.heap.objs.size []) (t':=s.toks) (fun b u q=>af _ q) (aBk (ip _ _)) ?_
 have ne:s.heap.objs.size≠s.heap.objs.size+1:=cw (dy _)
 exists by rw [aE ne,aB],df _,ne,e2,fun _=>none,(Heap.Ns1.of_empty e3).at fun o q=>af _ q,fun _=>gm,fun y hy=>absurd rfl hy
theorem bG2 {prog:Program}{w:World}{env:Env}{e:Expr}{f:Str}{pos:Pos}{s:Shared}{Q:Value->Shared->Prop}(hb:attributeBase e f env (eval e env)=eval e env)
  (h:wpAny (model prog w) A (eval e env) (fun o s₁=>wpAny (model prog w) A (getAttr o f true) Q E s₁) E s):wpAny (model prog w) A (eval (.Attribute e f pos) env) Q E s :=
 Attribute_any_ h (by rw [arm_eval_Attribute,hb])
end
def cH2 (K:PySem.W.Frag) (ta:TE) (f:Str):TE:=fun σ H Q=>ta σ H fun x H1=>∃ a C dx fs v,x= .ref a/\H1 a=some (.ins C dx fs)/\Cls K C/\iQ K C f/\fs.lookup f=some v/\Q v H1
def cI5 (K:PySem.W.Frag) (ta tv:TE) (f:Str):TS:=fun D σ H=>tv σ H fun y H1=>ta σ H1 fun x H2=>∃ a C dx fs,x= .ref a/\H2 a=some (.ins C dx fs)/\Cls K C/\iQ K C f/\fs.length < 1000 /\
 D.nx σ (aJ H2 a (.ins C dx (eU f y fs)))
def bY2 (X:Cx) (op:Operator) (rd:V->V->Hp->VK->Prop):Prop :=
 ∀ (pins:List (Addr×Obj)) (s:Shared) (σ: St) (H:Hp) (x y:V) (u v:Value) (Q:VK),aQ X pins σ H s->aX x u->aX y v->rd x y H Q->wpAny (model X.prog X.w) X.A (inplaceOp op u v) (EP X pins σ Q) X.xe s
section
variable {X:Cx}{o e value:Expr}{f:Str}{pos pos' tpos:Pos}{ta tv:TE}
theorem gA (he:PE X e ta) (hb:attributeBase e f X.env (eval e X.env)=eval e X.env):PE X (.Attribute e f pos) (cH2 X.K ta f):=by
 intro pins s σ H Q I h
 refine bG2 hb (cO (he pins s σ H _ I h) ?_);rintro u s1 ⟨x,H1,I1,rx,a,C,dx,fs,v,ex,ea,c,n,l,q⟩
 subst ex
 obtain rfl:u=Value.ref a:=rx
 exact aI2 I1 ea c n l fun u' s2 I2 ru=>⟨v,H1,I2,ru,q⟩
theorem sL (ha:PE X o ta) (hv:PE X value tv) (hs:swapsWith value (some (.Attribute o f pos')) pos.line X.env=pure false):PS X (.Assign [.Attribute o f pos'] value pos) (cI5 X.K ta tv f):=by
 intro pins s σ H D I h
 refine plainObj_wpAny_Assign_Attribute (cO (hv pins s σ H _ I h) ?_) hs;rintro u s1 ⟨y,H1,I1,ry,q⟩;refine cO (ha pins s1 σ H1 _ I1 q) ?_;rintro ov s2 ⟨x,H2,I2,rx,a,C,dx,fs,ex,ea,c,n,l,q2⟩
 subst ex
 obtain rfl:ov=Value.ref a:=rx
 exact aD0 I2 ea c n l ry fun s3 I3=>⟨σ,_,I3,q2⟩
end
section
variable {X:Cx}{pins:List (Addr×Obj)}{σ: St}{H:Hp}{s:Shared}{A:Around}{E:Value->Shared->Prop}{Q:Value->Shared->Prop}{c:Value}{b:Bool}
inductive qG (K:PySem.W.Frag) (H:Hp):V->Value->Prop where
 |non:qG K H .non (.type "NoneType")
 |bl (x:Bool):qG K H (.bl x) (.type "bool")
 |int (i:Int):qG K H (.int i) (.type "int")
 |str (x:Str):qG K H (.str x) (.type "str")
 |flt (x:UInt64):qG K H (.flt x) (.type "float")
 |lst {a:Addr}{xs:List V}(e:H a=some (.lst xs)):qG K H (.ref a) (.type "list")
 |frz {a:Addr}{o:Obj}{xs:List V}(e:H a=some (.frz o (.lst xs))):qG K H (.ref a) (.type "list")
 |tup {a:Addr}{xs:List V}(e:H a=some (.tup xs)):qG K H (.ref a) (.type "tuple")
 |dK {a:Addr}{kvs:List (Key×V)}(e:H a=some (.dK kvs)):qG K H (.ref a) (.type "dict")
 |dT {a:Addr}{kvs:List (List Key×V)}(e:H a=some (.dT kvs)):qG K H (.ref a) (.type "dict")
 |ins {a C dx:Addr}{fs:List (Str×V)}(e:H a=some (.ins C dx fs)) (cl:Cls K C) (ha:PySem.W.findIn K (.ref C) "__class__"=some (some (.builtin "object.__class__")))
   (hn:PySem.W.specialIn K (.builtin "object.__class__") "__get__"=some (some (.builtin "getset_descriptor.__get__"))) (htk:PySem.W.takesIn K (.builtin "object.__class__")=some true)
   (hm:PySem.W.mroIn K C (.type "object")=some true):qG K H (.ref a) (.ref C)
theorem aS0 {x:V}{u t:Value}(I:aQ X pins σ H s) (rx:aX x u) (ty:qG X.K H x t) (e:PySem.W.kitOne X.K t c=some b) (h:∀ tk,Q (.bool b) { s with toks:=tk }) :
  wpAny (model X.prog X.w) A (call (.builtin "isinstance") [u,c]) Q E s:=by
 cases ty with
 |non=>cases (show u=Value.none from rx);exact iq PySem.W.kitx_none I.kIn gm e (fun z=>nomatch z) h
 |bl y=>cases (show u=Value.bool y from rx);exact iq PySem.W.kitx_bool I.kIn gm e (fun z=>nomatch z) h
 |int i=>obtain ⟨t,q⟩:=(show ∃ t,u=Value.int i t from rx);cases q;exact iq PySem.W.kitx_int I.kIn gm e (fun z=>nomatch z) h
 |str y=>obtain ⟨t,q⟩:=(show ∃ t,u=Value.str y t from rx);cases q;exact iq PySem.W.kitx_str I.kIn gm e (fun z=>nomatch z) h
 |flt y=>obtain ⟨t,q⟩:=(show ∃ t,u=Value.float y t from rx);cases q;exact iq PySem.W.kitx_float I.kIn gm e (fun z=>nomatch z) h
 |@lst a xs ea =>
  cases (show u=Value.ref a from rx)
  obtain ⟨_,_,n,_,h1⟩:=(show bO X.prog X.w H s.heap a (.lst xs) from I.hok a _ ea)
  exact iq PySem.W.kitx_list I.kIn ⟨_,h1,rfl⟩ e (fun z=>nomatch z) h
 |@frz a ob xs ea =>
  cases (show u=Value.ref a from rx)
  obtain ⟨_,_,_,n,_,h1⟩:=(show bO X.prog X.w H s.heap a (.frz ob (.lst xs)) from I.hok a _ ea)
  exact iq PySem.W.kitx_list I.kIn ⟨_,h1,rfl⟩ e (fun z=>nomatch z) h
 |@tup a xs ea =>
  cases (show u=Value.ref a from rx)
  obtain ⟨_,_,_,p⟩:=(show bO X.prog X.w H s.heap a (.tup xs) from I.hok a _ ea)
  obtain ⟨o,h1,h2,_⟩:=p
  exact iq PySem.W.kitx_tuple I.kIn ⟨o,h1,h2⟩ e (fun z=>nomatch z) h
 |@dK a kvs ea =>
  cases (show u=Value.ref a from rx)
  obtain ⟨_,_,vs,_,p⟩:=(show bO X.prog X.w H s.heap a (.dK kvs) from I.hok a _ ea)
  obtain ⟨o,es,ep,h1,h2,_⟩:=p
  exact iq PySem.W.kitx_dict I.kIn ⟨o,h1,h2.1⟩ e (fun z=>nomatch z) h
 |@dT a kvs ea =>
  cases (show u=Value.ref a from rx)
  obtain ⟨_,_,xs,_,o,es,ep,h1,h2,_⟩:=(show bO X.prog X.w H s.heap a (.dT kvs) from I.hok a _ ea)
  exact iq PySem.W.kitx_dict I.kIn ⟨o,h1,h2.1⟩ e (fun z=>nomatch z) h
 |@ins a C dx fs ea cl ha hn htk hm =>
  cases (show u=Value.ref a from rx)
  obtain ⟨mA,O,_⟩:=yN I.hok ea
  obtain ⟨od,J,_⟩:=O.look
  exact iq (PySem.W.kitx_own (cl.get _) cl.hd ha hn htk hm) I.kIn J e (fun z=>nomatch z) h
end
structure bU (k:Nat) (A:Around):Prop where
 hd:A.handled=none
 dp:A.depth+3 * k+5 < recursionLimit
 un:A.units+16 * k+200 < cLine
 gd:A.guards=some []
theorem bU.mono {j k:Nat}{A:Around}(r:bU k A) (h:j<=k):bU j A:=⟨r.hd,by have:=r.dp;omega,by have:=r.un;omega,r.gd⟩
theorem bU.deeper {k:Nat}{A:Around}(r:bU (k+1) A) (env:Env):bU k (A.deeper env) :=
 ⟨r.hd,by have:=r.dp;show A.depth+1+3 * k+5 < _;omega,by have:=r.un;show A.units+3+16 * k+200 < _;omega,r.gd⟩
theorem aE1 {A:Around}{C:Addr}{us:List Value}{kw:List (Str×Value)}:(A.under (.builtin "type.__call__" ⟨.ref C :: us,kw⟩)).depth=A.depth+1:=by
 first | rfl | simp [Around.under,Code.weight,Code.isCreation,Code.isGuard,Code.isCaller,Code.frames,Code.isFrame,guardIds]
theorem aD7 {A:Around}{C:Addr}{us:List Value}{kw:List (Str×Value)}:(A.under (.builtin "type.__call__" ⟨.ref C :: us,kw⟩)).units=A.units+1:=by
 first | rfl | simp [Around.under,Code.cUnits,Code.frames,Code.isFrame]
theorem aA0 {A:Around}{C:Addr}{us:List Value}{kw:List (Str×Value)}:(A.under (.builtin "type.__call__" ⟨.ref C :: us,kw⟩)).guards=A.guards:=by
 have e:(Code.builtin "type.__call__" ⟨.ref C :: us,kw⟩).isGuard=false:=by
  show guardIds.contains "type.__call__"=false
  decide +kernel
 cases h:A.guards <;> simp [Around.under,Code.guards,pushGuards,e,h]
theorem bU.make {k:Nat}{A:Around}(r:bU (k+1) A) (C:Addr) (us:List Value) (kw:List (Str×Value)):bU k (A.under (.builtin "type.__call__" ⟨.ref C :: us,kw⟩)) :=
 ⟨r.hd,by have:=r.dp;rw [aE1];omega,by have:=r.un;rw [aD7];omega,aA0.trans r.gd⟩
theorem bU.depth {k:Nat}{A:Around}(r:bU k A):A.depth < recursionLimit:=by have:=r.dp;omega
theorem bU.units {k:Nat}{A:Around}(r:bU k A):A.units+64 < cLine:=by have:=r.un;omega
def tNil:TA:=fun _ H Q=>Q [] H
def bN7 (ta:TE) (tr:TA):TA:=fun σ H Q=>ta σ H fun x H1=>tr σ H1 fun xs H2=>Q (x :: xs) H2
section
variable {X:Cx}{e:Expr}{es:List Expr}{te:TE}{t:TA}{pos:Pos}
theorem gO:PA X [] tNil:=fun _ _ _ _ H Q I h=>qg ⟨[],H,I,.nil,h⟩
theorem aC (ha:PE X e te) (hr:PA X es t) (hs:autoParam (starEach (e :: es) X.env=(false,eval e X.env) :: starEach es X.env) Rq0._auto_1):PA X (e :: es) (bN7 te t):=by
 intro pos pins s σ H Q I h
 rw [hs]
 show wpAny _ _ (spliced ((false,eval e X.env) :: backTo pos (starEach es X.env))) _ _ s
 refine ka (cO (ha pins s σ H _ I h) ?_);rintro u s1 ⟨x,H1,I1,r1,q1⟩
 refine cO (hr pos pins s1 σ H1 _ I1 q1) ?_;rintro us s2 ⟨xs,H2,I2,r2,q2⟩;exact ⟨x :: xs,H2,I2,.cons r1 r2,q2⟩
def cI0 (t:TA):TE:=fun σ H Q=>t σ H fun xs H1=>xs.length<=sizeLine/\∀ p,H1 p=none->Q (.ref p) (aJ H1 p (.tup xs))
def cI3 (t:TA):TE:=fun σ H Q=>t σ H fun xs H1=>xs.length<=sizeLine/\∀ p,H1 p=none->Q (.ref p) (aJ H1 p (.lst xs))
theorem aW {x1} (h:PA X es t):PE X (.Tuple es x1 pos) (cI0 t):=by
 intro pins s σ H Q I hq
 refine wpAny_Tuple_spliced (cO (h pos pins s σ H _ I hq) ?_);rintro us s1 ⟨xs,H1,I1,r,z,q⟩;refine ⟨by rw [<- r.length];exact z,?_⟩
 have hf:H1 s1.heap.objs.size=none:=I1.hok.fresh (ao _)
 exists .ref s1.heap.objs.size,aJ H1 s1.heap.objs.size (.tup xs),I1.laid (t':=s1.toks) (fun b u e=>af _ e) (ao _) ?_,rfl,q _ hf
 exact ⟨z,us,r,⟨_,aq _ rfl,rfl,_,rfl,rfl⟩⟩
theorem fF (h:PA X es t):PE X (.List es pos) (cI3 t):=by
 intro pins s σ H Q I hq
 refine wpAny_List_spliced (cO (h pos pins s σ H _ I hq) ?_);rintro us s1 ⟨xs,H1,I1,r,z,q⟩;refine ⟨by rw [<- r.length];exact z,?_⟩
 have hf:H1 s1.heap.objs.size=none:=I1.hok.fresh (ao _)
 exists .ref s1.heap.objs.size,aJ H1 s1.heap.objs.size (.lst xs),I1.laid (t':=s1.toks) (fun b u e=>af _ e) (ao _) ?_,rfl,q _ hf
 exact ⟨z,us,0,r,aq _ rfl⟩
end
abbrev Sp:=List V->Hp->VK->XK->Prop
abbrev CXT:=List Env->Hp->Shared->XK->Value->Shared->Prop
structure aE5 (P:Program) (w:World) (K:PySem.W.Frag) (mg:Str->Option Value) (base:Heap) (A:Around) (outer:List Env) (s:Shared) (H:Hp):Prop where
 frames:A.frames=some outer
 mod:Mod K mg base
 bs:∀ b o,base.get? b=some o->s.heap.get? b=some o/\H b=none
 bsz:base.objs.size<=s.heap.objs.size
 funs:s.heap.FunFrames base outer
 frf:∀ b∈frs outer,H b=none
 hok:lX P w H s.heap
 bare:AllBare s.gens
def CE (outer:List Env) (P:Program) (w:World) (H:Hp) (s:Shared) (Q:VK) (u:Value) (s':Shared):Prop :=
 ∃ v H',s'.os=s.os/\AllBare s'.gens/\Un (frs outer) [] H H' s.heap s'.heap/\lX P w H' s'.heap/\aX v u/\Q v H'
def CR (CX:CXT) (outer:List Env) (P:Program) (w:World) (H:Hp) (s:Shared) (Q:VK) (E:XK) (r:Result) (s':Shared):Prop :=
 match r with
 |.ok (.ret u)=>CE outer P w H s Q u s'
 |.ok _=>False
 |.error e=>CX outer H s E e s'
structure nK (P:Program) (w:World) (K:PySem.W.Frag) (mg:Str->Option Value) (base:Heap) (CX:CXT) (k:Nat) (f:Addr) (fd:FuncData) (ps:List Str) (sp:Sp):Prop where
 len:∀ vs H Q E,sp vs H Q E->vs.length=ps.length
 run:∀ (A:Around) (outer:List Env) (s:Shared) (H:Hp) (args:Args) (us:List Value) (vs:List V) (Q:VK) (E:XK),bU k A->aE5 P w K mg base A outer s H->BindsTo s fd args (ps.zip us)->bB vs us->sp vs H Q E ->
  codeAny (model P w) A (.call (.ref f) args) (CR CX outer P w H s Q E) s
theorem aE5.make {P:Program}{w:World}{K:PySem.W.Frag}{mg:Str->Option Value}{base:Heap}{A:Around}{outer:List Env}{s:Shared}{H:Hp}(e:aE5 P w K mg base A outer s H) (C:Addr) (us:List Value) (kw:List (Str×Value)) :
  aE5 P w K mg base (A.under (.builtin "type.__call__" ⟨.ref C :: us,kw⟩)) outer s H:=⟨by first | exact e.frames | (simpa [Around.under,Code.envs,Code.isFrame,pushEnvs] using e.frames),e.mod,e.bs,e.bsz,e.funs,e.frf,e.hok,e.bare⟩
section
variable {X:Cx}{pins:List (Addr×Obj)}{σ: St}{H:Hp}{s s':Shared}
theorem aQ.env0 (I:aQ X pins σ H s):aE5 X.prog X.w X.K X.mg X.base X.A X.stack s H :=
 ⟨I.ok.frames,I.ok.mod,I.bs,cy I.ok.bsz I.sz,I.stack,I.stkFree,I.hok,I.bare⟩
theorem aQ.after {Q:VK}{u:Value}(I:aQ X pins σ H s) (h:CE X.stack X.prog X.w H s Q u s'):EP X pins σ Q u s':=by
 obtain ⟨v,H',os,bare,un,hok,r,q⟩:=h
 obtain ⟨hh,g,d,t,os'⟩:=s'
 obtain rfl:os'=s.os:=os
 exact ⟨v,H',I.call (h':=hh) (g':=g) (d':=d) (t':=t) (ch:=[]) un hok bare (fun b z=>absurd z (by simp)),r,q⟩
end
def bM3 (sp:Sp) (dvs:List V) (E:XK) (t:TA):TE:=fun σ H Q=>t σ H fun vs H1=>sp (vs++dvs) H1 Q E
def bP7 (C:Addr) (sp:Sp) (dvs:List V) (E:XK) (t:TA):TE:=fun σ H Q=>t σ H fun vs H1=>∀ x dx,H1 x=none->H1 dx=none->dx≠x ->
 sp (.ref x :: (vs++dvs)) (aJ (aJ H1 dx (.own x)) x (.ins C dx [])) (fun v H2=>v= .non/\Q (.ref x) H2) E
def hV (K:PySem.W.Frag) (fd:FuncData) (ps:List Str) (ds:List Value):Prop :=
 ∀ (s:Shared) (us:List Value),K.In s.heap->(us++ds).length=ps.length->BindsTo s fd ⟨us,[]⟩ (ps.zip (us++ds))
theorem hV.all {K:PySem.W.Frag}{fd:FuncData}{ps:List Str}(h:∀ us:List Value,us.length=ps.length->bindArgs fd ⟨us,[]⟩=pure (ps.zip us)):hV K fd ps []:=fun s us _ hl=>by
 rw [fw] at hl ⊢
 exact .of_eq (h us hl)
def uA (CX:CXT) (X:Cx) (E:XK):Prop:=∀ (pins:List (Addr×Obj)) (σ: St) (H:Hp) (s:Shared) (e:Value) (s':Shared),aQ X pins σ H s->CX X.stack H s E e s'->X.xe e s'
section
variable {X:Cx}{CX:CXT}{k:Nat}{f C:Addr}{fd:FuncData}{ps:List Str}{sp:Sp}{dvs:List V}{ds:List Value}{E:XK}{x m:Str}{p pos apos:Pos}{e o:Expr}{es:List Expr}{ta:TE}{t:TA}
theorem bX7 {pins:List (Addr×Obj)}{σ: St}{H:Hp}{s:Shared}{Q:VK}{us:List Value}{vs:List V}(F:nK X.prog X.w X.K X.mg X.base CX k f fd ps sp) (hr:bU k X.A) (hb:hV X.K fd ps ds) (hd:bB dvs ds) (hx:uA CX X E)
  (I:aQ X pins σ H s) (r:bB vs us) (h:sp (vs++dvs) H Q E):wpAny (model X.prog X.w) X.A (call (.ref f) us) (EP X pins σ Q) X.xe s:=by
 have r2:bB (vs++dvs) (us++ds):=r.append hd
 have hl:(us++ds).length=ps.length:=by rw [<- r2.length];exact F.len _ _ _ _ h
 refine wpAny_call (yc (F.run X.A X.stack s H ⟨us,[]⟩ (us++ds) (vs++dvs) Q E hr I.env0 (hb s us I.kIn hl) r2 h) fun r s' hq=>?_)
 cases r with
 |error e=>exact hx pins σ H s e s' I hq
 |ok fl =>
  cases fl with
  |ret u=>exact I.after hq
  |next=>exact False.elim hq
  |brk=>exact False.elim hq
  |cont=>exact False.elim hq
theorem bG3 (F:nK X.prog X.w X.K X.mg X.base CX k f fd ps sp) (hr:bU k X.A) (hg:Gl X x) (hm:X.mg x=some (.ref f)) (hk:PySem.W.keepIn X.K (.ref f)=true) (hb:hV X.K fd ps ds) (hd:bB dvs ds) (hx:uA CX X E)
  (ha:PA X (e :: es) t) (hdb:autoParam ((x == ("__debug__": Str))=false) Rq1._auto_1) (he:autoParam (starEach (e :: es) X.env=(false,eval e X.env) :: starEach es X.env) Rq0._auto_1) (hpl:autoParam ((backTo pos (starEach es X.env)).any (·.1)=false) Rq0._auto_1) :
  PE X (.Call (.Name x p) (e :: es) [] pos) (bM3 sp dvs E t):=by
 intro pins s σ H Q I h
 refine kc (aL6 I hg hm ?_ hdb)
 refine aBl (h₀:=X.base) I.ok.mod.kin hk (cO (ha pos pins s σ H _ I h) ?_) he hpl;rintro us s1 ⟨vs,H1,I1,r,q⟩;refine ⟨I1.kIn,?_⟩
 exact bX7 F hr hb hd hx I1 r q
structure Mk (K:PySem.W.Frag) (C f:Addr):Prop where
 makes:PySem.W.makesIn K C=true
 init:PySem.W.findIn K (.ref C) "__init__"=some (some (.ref f))
 fn:PySem.W.isFn K (.ref f)=true
 kp:PySem.W.keepIn K (.ref C)=true
theorem aS8 {pins:List (Addr×Obj)}{σ: St}{H:Hp}{s:Shared}{Q:VK}{us:List Value}{vs:List V}(M:Mk X.K C f) (F:nK X.prog X.w X.K X.mg X.base CX k f fd ps sp) (hr:bU (k+1) X.A) (hb:hV X.K fd ps ds) (hd:bB dvs ds)
  (hx:uA CX X E) (I:aQ X pins σ H s) (r:bB vs us)
  (h:∀ x dx,H x=none->H dx=none->dx≠x->sp (.ref x :: (vs++dvs)) (aJ (aJ H dx (.own x)) x (.ins C dx [])) (fun v H2=>v= .non/\Q (.ref x) H2) E) :
  wpAny (model X.prog X.w) X.A (call (.ref C) us) (EP X pins σ Q) X.xe s:=by
 have hq:=h (s.heap.objs.size+1) s.heap.objs.size (I.hok.fresh (zf _)) (I.hok.fresh (ao _)) (cw (dy _))
 have I2:=aQ.made (C:=C) I
 have r2:bB (V.ref (s.heap.objs.size+1) :: (vs++dvs)) (Value.ref (s.heap.objs.size+1) :: (us++ds)):= .cons rfl (r.append hd)
 have hl:(Value.ref (s.heap.objs.size+1) :: us++ds).length=ps.length:=by
  have e:=r2.length
  rw [F.len _ _ _ _ hq] at e
  exact e.symm
 refine wpAny_call (bD3 (f:=f) I.kIn M.makes M.init (xy.mp M.fn) (yc (F.run _ X.stack _ _ ⟨Value.ref (s.heap.objs.size+1) :: us,[]⟩ (Value.ref (s.heap.objs.size+1) :: (us++ds)) _ _ E (hr.make C us [])
  (I2.env0.make C us []) (hb _ (Value.ref (s.heap.objs.size+1) :: us) I2.kIn hl) r2 hq) fun r s' hq'=>?_))
 cases r with
 |error e=>exact hx pins σ _ _ e s' I2 hq'
 |ok fl =>
  cases fl with
  |ret u =>
   obtain ⟨v,H',I3,rv,ev,q3⟩:=I2.after hq'
   subst ev
   exact ⟨rv,⟨V.ref (s.heap.objs.size+1),H',I3,rfl,q3⟩⟩
  |next=>exact False.elim hq'
  |brk=>exact False.elim hq'
  |cont=>exact False.elim hq'
theorem bL9 (M:Mk X.K C f) (F:nK X.prog X.w X.K X.mg X.base CX k f fd ps sp) (hr:bU (k+1) X.A) (hg:Gl X x) (hm:X.mg x=some (.ref C)) (hb:hV X.K fd ps ds) (hd:bB dvs ds) (hx:uA CX X E)
  (ha:PA X (e :: es) t) (hdb:autoParam ((x == ("__debug__": Str))=false) Rq1._auto_1) (he:autoParam (starEach (e :: es) X.env=(false,eval e X.env) :: starEach es X.env) Rq0._auto_1) (hpl:autoParam ((backTo pos (starEach es X.env)).any (·.1)=false) Rq0._auto_1) :
  PE X (.Call (.Name x p) (e :: es) [] pos) (bP7 C sp dvs E t):=by
 intro pins s σ H Q I h
 refine kc (aL6 I hg hm ?_ hdb)
 refine aBl (h₀:=X.base) I.ok.mod.kin M.kp (cO (ha pos pins s σ H _ I h) ?_) he hpl;rintro us s1 ⟨vs,H1,I1,r,q⟩;refine ⟨I1.kIn,?_⟩
 exact aS8 M F hr hb hd hx I1 r q
end
section
variable {X:Cx}{CX:CXT}{k:Nat}{f C:Addr}{fd:FuncData}{ps ks:List Str}{sp:Sp}{E:XK}{x m:Str}{p pos apos kpos:Pos}{e o:Expr}{es:List Expr}{kws:List Keyword}{te ta:TE}{t tk:TA}{nm:Option Str}
variable {g:List Value->List Value->List Value}{gV:List V->List V->List V}
end
structure mK (N P:List Str) (sc:Scope):Prop where
 kind:sc.kind= .function
 co:sc.isCoroutine=false
 gen:sc.isGenerator=false
 nd:N.Nodup
 pre:N.take P.length=P
 par:∀ x∈P,sc.names.lookup x=some .local\/sc.names.lookup x=some .cell
 nofree:∀ y∈sc.names,y.2≠ .free
theorem wH {kindOf:Str->Option NameKind}{x:Str}:∀ {binds:List (Str×Value)}{m:Str->Option Value},(∀ v,(x,v)∉binds)->bindL kindOf binds m x=m x
 |[],_,_=>rfl
 |(n,v) :: r,m,h=>by
  unfold bindL
  rw [wH fun w hw=>h w (ba _ hw)]
  split
  ·have:x≠n:=by rintro rfl;exact h v bj
   simp [this]
  ·rfl
theorem wP {kindOf:Str->Option NameKind}{x:Str}:∀ {binds:List (Str×Value)}{m:Str->Option Value},(∀ v,(x,v)∉binds)->bindC kindOf binds m x=m x
 |[],_,_=>rfl
 |(n,v) :: r,m,h=>by
  unfold bindC
  rw [wP fun w hw=>h w (ba _ hw)]
  split
  ·rfl
  ·have:x≠n:=by rintro rfl;exact h v bj
   simp [this]
theorem vT {kindOf:Str->Option NameKind}{x:Str}{v:Value}:∀ {P:List Str}{vs:List Value}{i:Nat}{m:Str->Option Value},P.Nodup->P[i]?=some x->vs[i]?=some v->kindOf x=some .local ->
  bindL kindOf (P.zip vs) m x=some v
 |[],_,_,_,_,h,_,_=>by simp at h
 |_ :: _,[],_,_,_,_,h,_=>by simp at h
 |p :: P,w :: vs,0,m,nd,h1,h2,hk=>by
  simp at h1 h2;subst h1;subst h2
  show bindL kindOf ((p,w) :: P.zip vs) m p=_
  unfold bindL
  rw [wH fun v hv=>(fh.mp nd).1 (rf hv).1,bh hk]
  simp
 |p :: P,w :: vs,i+1,m,nd,h1,h2,hk=>by
  show bindL kindOf ((p,w) :: P.zip vs) m x=_
  unfold bindL
  exact vT (i:=i) (fh.mp nd).2 (by simpa using h1) (by simpa using h2) hk
theorem wE {kindOf:Str->Option NameKind}{x:Str}{v:Value}:∀ {P:List Str}{vs:List Value}{i:Nat}{m:Str->Option Value},P.Nodup->P[i]?=some x->vs[i]?=some v->kindOf x≠some .local ->
  bindC kindOf (P.zip vs) m x=some v
 |[],_,_,_,_,h,_,_=>by simp at h
 |_ :: _,[],_,_,_,_,h,_=>by simp at h
 |p :: P,w :: vs,0,m,nd,h1,h2,hk=>by
  simp at h1 h2;subst h1;subst h2
  show bindC kindOf ((p,w) :: P.zip vs) m p=_
  unfold bindC
  rw [wP fun v hv=>(fh.mp nd).1 (rf hv).1,ap hk]
  simp
 |p :: P,w :: vs,i+1,m,nd,h1,h2,hk=>by
  show bindC kindOf ((p,w) :: P.zip vs) m x=_
  unfold bindC
  exact wE (i:=i) (fh.mp nd).2 (by simpa using h1) (by simpa using h2) hk
def oF (N:List Str) (vs:List V):St:=vs.map some++List.replicate (N.length - vs.length) none
def aH7 (CX:CXT) (P:Program) (w:World) (K:PySem.W.Frag) (mg:Str->Option Value) (base:Heap) (N:List Str) (qual:Str) (scope:Scope) (f:Addr) (cd:Value) (A:Around) (outer:List Env) (s:Shared) (H:Hp) (E:XK):Cx where
 prog:=P
 w:=w
 K:=K
 mg:=mg
 base:=base
 A:=A.deeper (envOfC qual scope s.heap.objs.size f cd)
 N:=N
 s₀:=s
 H₀:=H
 env:=envOfC qual scope s.heap.objs.size f cd
 outer:=outer
 stack:=envOfC qual scope s.heap.objs.size f cd :: outer
 ex:=[]
 calm:=true
 fn:=fun _=>true
 pn:=[]
 xe:=fun e s'=>wpAny (model P w) (A.deeper (envOfC qual scope s.heap.objs.size f cd)) (leaving (envOfC qual scope s.heap.objs.size f cd) e) (fun _ s''=>CX outer H s E e s'') (fun e' s''=>CX outer H s E e' s'') s'
theorem zI {sc:Scope}{n:Nat}{x:Str}(h:sc.names.lookup x=some .cell):∃ c,(cellsFrom n sc.names []).lookup x=some c:=by
 have q:=zh sc.names n [] (.inl h)
 exact yd.mp q
theorem aS1 {CX:CXT}{P:Program}{w:World}{K:PySem.W.Frag}{mg:Str->Option Value}{base:Heap}{N ps:List Str}{qual:Str}{scope:Scope}{f:Addr}{cd:Value}{A:Around}{outer:List Env}{s s1:Shared}{H:Hp}{E:XK}{us:List Value}{vs:List V}
  (S:mK N ps scope) (hd:A.handled=none) (e0:aE5 P w K mg base A outer s H) (hl:vs.length=ps.length) (r:bB vs us)
  (x:InCallC s s.heap.objs.size (bindL (envOfC qual scope s.heap.objs.size f cd).kindOf (ps.zip us) fun _=>none) (cellsFrom (s.heap.objs.size+1) scope.names []) (bindC (envOfC qual scope s.heap.objs.size f cd).kindOf (ps.zip us) fun _=>none) s1) :
  aQ (aH7 CX P w K mg base N qual scope f cd A outer s H E) [] (oF N vs) H s1:=by
 have hpl:ps.length<=N.length:=by have:=ed List.length S.pre;rw [bx] at this;omega
 obtain ⟨h1,tk,rfl,hk⟩:=x.done
 have noA:∀ b:Addr,b∉(aH7 CX P w K mg base N qual scope f cd A outer s H E).ex:=fun b z=>absurd (show b∈([]:List Addr) from z) (by simp)
 refine ⟨⟨e0.mod,S.kind,rfl,rfl,ao _,fun y z c h1 h2=>?_,fun y hy=>?_,fun y c _ h=>?_,fun _=>hd,Around.frames_deeper e0.frames,.inr ⟨rfl,rfl⟩,fun b z=>absurd z (noA b),e0.bs,e0.bsz,fun b _ _=>noA b,fun b z=>absurd z (noA b),e0.funs,e0.frf⟩,
  rfl,e0.bare,Un.kept hk,⟨_,x.toInCall.ns,fun i y v h1 h2 h3=>?_⟩,fun y c h=>⟨_,x.cell y c h⟩,e0.hok.fresh (ao _),fun y c h=>?_,fun p hp=>absurd (show p∈([]:List (Addr×Obj)) from hp) (by simp),e0.hok.kept hk,?_⟩
 ·exact name_of_addr x.apart (md h1) (md h2)
 ·have hy:scope.names.lookup y=some .cell\/scope.names.lookup y=some .free:=hy
  rcases hy with hy | hy
  ·exact zI hy
  ·exact absurd rfl (S.nofree _ (md hy))
 ·exact iz (x.above y c (md h))
 ·have hi:i < vs.length:=by
   unfold oF at h2
   by_cases hi:i < vs.length
   ·exact hi
   ·rw [List.getElem?_append_right (by simpa using hi)] at h2
    rw [List.getElem?_replicate] at h2
    split at h2 <;> cases h2
  have ha:vs[i]?=some v:=by
   unfold oF at h2
   rw [ow (by simpa using hi),cp] at h2
   cases e:vs[i]? with
   |none=>rw [e] at h2;cases h2
   |some a=>rw [e] at h2;cases h2;rfl
  obtain ⟨u,hu,rv⟩:=r.get ha
  have hp:ps[i]?=some y:=by
   rw [<- S.pre,List.getElem?_take_of_lt ∅];exact h1
  have ndP:ps.Nodup:=by rw [<- S.pre];exact S.nd.sublist (List.take_sublist _ _)
  exists u,rv,?_
  rcases S.par y (bq hp) with k | k
  ·exact .inl ⟨k,vT ndP hp hu k⟩
  ·obtain ⟨c,e⟩:=zI (n:=s.heap.objs.size+1) k
   refine .inr ⟨.inl k,c,e,?_⟩
   have q:=x.cell y c e
   rw [wE ndP hp hu (by show scope.names.lookup y≠_;rw [k];decide)] at q
   exact q
 ·exact e0.hok.fresh (iz (x.above y c (md h)))
 ·unfold oF
  show _=N.length
  rw [cq,ae,nu]
  omega
theorem cF2 {CX:CXT}{P:Program}{w:World}{K:PySem.W.Frag}{mg:Str->Option Value}{base:Heap}{k:Nat}{f:Addr}{name qual:Str}{params:Arguments}{body:List Stmt}{scope:Scope}{dV kV doc pm cdv ct oc:Value}{an od:Option Addr}
  {osl:Array (Option Value)}{N ps:List Str}{sp:Sp}(lk:K.lookup f=some ⟨oc,od,.func (PySem.W.fnOf name qual params body scope dV kV doc pm an cdv ct),osl⟩) (hcd:PySem.W.codeIn K cdv qual=true) (S:mK N ps scope)
  (len:∀ vs H Q E,sp vs H Q E->vs.length=ps.length)
  (hbody:∀ (A:Around) (outer:List Env) (s:Shared) (H:Hp) (vs:List V) (Q:VK) (E:XK),bU k (A.deeper (envOfC qual scope s.heap.objs.size f cdv))->sp vs H Q E ->
   ∃ t,PSs (aH7 CX P w K mg base N qual scope f cdv A outer s H E) body t/\t { nx:=fun _ H'=>Q .non H',rt:=Q } (oF N vs) H) :
  nK P w K mg base CX (k+1) f (PySem.W.fnOf name qual params body scope dV kV doc pm an cdv ct) ps sp:=by
 exists len,fun A outer s H args us vs Q E hr e0 hb r hsp=>?_
 have hl:=len _ _ _ _ hsp
 have KX:K.In s.heap:=e0.mod.kin.keeps fun b o e=>(e0.bs b o e).1
 have lim:s.heap.NoLimit:=e0.mod.nolimit.keeps fun b o e=>(e0.bs b o e).1
 have hkind:∀ y∈ps.zip us,scope.names.lookup y.1=some .local\/(scope.names.lookup y.1=some .cell/\((cellsFrom (s.heap.objs.size+1) scope.names []).lookup y.1).isSome=true):=fun ⟨n,v⟩ hy=>by
  rcases S.par n (rf hy).1 with q | q
  ·exact .inl q
  ·exact .inr ⟨q,zh _ _ _ (.inl q)⟩
 refine codeAny_call_function hr.depth (KX _ _ lk) rfl S.co S.gen rfl (PySem.W.codeRec_of KX hcd) (hb _ _ _ _ ?_)
 refine wpAny_newFunctionEnv_cells S.kind hkind fun env he s1 x=>?_
 subst he
 exists lim.keeps x.toInCall.keep,codeAny_func ?_
 obtain ⟨t,ht,hq⟩:=hbody A outer s H vs Q E (hr.deeper _) hsp
 have I:aQ (aH7 CX P w K mg base N qual scope f cdv A outer s H E) [] (oF N vs) H s1:=aS1 S hr.hd e0 hl r x
 refine gh (ht [] s1 (oF N vs) H _ I hq) (fun fl s' hs=>?_) fun e s' hs=>hs
 have fin:∀ {σ':St}{H':Hp}{v:V}{u:Value},aQ (aH7 CX P w K mg base N qual scope f cdv A outer s H E) [] σ' H' s'->aX v u->Q v H'->CE outer P w H s Q u s' :=
  fun {σ' H' v u} J rv q=>⟨v,H',J.os,J.bare,J.base,J.hok,rv,q⟩
 cases fl with
 |ret u =>
  obtain ⟨v,σ',H',J,rv,q⟩:=hs
  exact fin J rv q
 |next =>
  obtain ⟨σ',H',J,q⟩:=hs
  exact fin (v:=V.non) (u:=Value.none) J rfl q
 |brk =>
  obtain ⟨_,_,_,q⟩:=hs
  exact False.elim q
 |cont =>
  obtain ⟨_,_,_,q⟩:=hs
  exact False.elim q
section
variable {X:Cx}{x:Str}{p pos:Pos}{e:Expr}{es:List Expr}{t:TA}{id T:String}{r:List V->Hp->VK->Prop}
def tCB (r:List V->Hp->VK->Prop) (t:TA):TE:=fun σ H Q=>t σ H fun vs H1=>r vs H1 Q
theorem sP (hc:dL X (.builtin id) r) (hg:Gl X x) (hm:X.mg x=none) (hv:bootBuiltins x=some (.builtin id)) (ha:PA X (e :: es) t) (hn:autoParam (x≠"__name__") Rq1._auto_1) (hdb:autoParam ((x == ("__debug__": Str))=false) Rq1._auto_1)
  (he:autoParam (starEach (e :: es) X.env=(false,eval e X.env) :: starEach es X.env) Rq0._auto_1) (hpl:autoParam ((backTo pos (starEach es X.env)).any (·.1)=false) Rq0._auto_1):PE X (.Call (.Name x p) (e :: es) [] pos) (tCB r t):=by
 intro pins s σ H Q I h
 refine kc (kH I hg hm hv ?_ hn hdb)
 refine PyProof.Rows.callWith_builtin1 (cO (ha pos pins s σ H _ I h) ?_) he hpl;rintro us s1 ⟨vs,H1,I1,r1,q1⟩;exact hc pins s1 σ H1 vs us Q I1 r1 q1
theorem aO2 (hc:dL X (.type T) r) (hg:Gl X x) (hm:X.mg x=none) (hv:bootBuiltins x=some (.type T)) (ha:PA X (e :: es) t) (hn:autoParam (x≠"__name__") Rq1._auto_1) (hdb:autoParam ((x == ("__debug__": Str))=false) Rq1._auto_1)
  (he:autoParam (starEach (e :: es) X.env=(false,eval e X.env) :: starEach es X.env) Rq0._auto_1) (hpl:autoParam ((backTo pos (starEach es X.env)).any (·.1)=false) Rq0._auto_1):PE X (.Call (.Name x p) (e :: es) [] pos) (tCB r t):=by
 intro pins s σ H Q I h
 refine kc (kH I hg hm hv ?_ hn hdb)
 refine gt (cO (ha pos pins s σ H _ I h) ?_) he hpl;rintro us s1 ⟨vs,H1,I1,r1,q1⟩;exact hc pins s1 σ H1 vs us Q I1 r1 q1
end
section
variable {κ: Type} [DecidableEq κ]
def bH (kvs:List (κ×V)) (k:κ):Option V:=(kvs.find? fun kv=>decide (kv.1=k)).map (·.2)
def bF (kvs:List (κ×V)) (k:κ) (v:V):List (κ×V) :=
 if (kvs.any fun kv=>decide (kv.1=k))=true then kvs.map (fun kv=>if kv.1=k then (kv.1,v) else kv) else kvs++[(k,v)]
theorem aA4 {k:κ}:bH ([]:List (κ×V)) k=none:=rfl
theorem bR {p:κ×V}{r:List (κ×V)}{k:κ}(e:p.1=k):bH (p :: r) k=some p.2:=by simp [bH,List.find?_cons,e]
theorem aZ {p:κ×V}{r:List (κ×V)}{k:κ}(e:¬ p.1=k):bH (p :: r) k=bH r k:=by simp [bH,List.find?_cons,e]
theorem gB (k:κ):∀ kvs:List (κ×V),(kvs.any fun kv=>decide (kv.1=k))=(bH kvs k).isSome
 |[]=>rfl
 |p :: r=>by
  rw [qt]
  by_cases e:p.1=k
  ·simp only [bR e,decide_eq_true e,Bool.true_or,Option.isSome_some]
  ·rw [aZ e,dk e,Bool.false_or];exact gB k r
theorem yX (k j:κ) (y:V):∀ kvs:List (κ×V),bH (kvs.map fun kv=>if kv.1=k then (kv.1,y) else kv) j=(bH kvs j).map fun x=>if j=k then y else x
 |[]=>rfl
 |p :: r=>by
  have ih:=yX k j y r
  rw [au]
  by_cases h:p.1=k
  ·rw [bh h]
   by_cases e:p.1=j
   ·rw [bR (p:=(p.1,y)) e,bR e,vd,bh (e.symm.trans h)]
   ·rw [aZ (p:=(p.1,y)) e,aZ e,ih]
  ·rw [ap h]
   by_cases e:p.1=j
   ·rw [bR (p:=p) e,bR e,vd,ap (fun z=>h (e.trans z))]
   ·rw [aZ (p:=p) e,aZ e,ih]
theorem wI (k j:κ) (y:V):∀ kvs:List (κ×V),bH kvs k=none->bH (kvs++[(k,y)]) j=if j=k then some y else bH kvs j
 |[],_=>by
  by_cases e:k=j
  ·rw [bh e.symm];exact bR (p:=(k,y)) e
  ·rw [ap (fun z=>e z.symm)];exact aZ (p:=(k,y)) e
 |p :: r,hn=>by
  rw [List.cons_append]
  have hk:¬ p.1=k:=fun z=>by rw [bR z] at hn;cases hn
  rw [aZ hk] at hn
  have ih:=wI k j y r hn
  by_cases e:p.1=j
  ·rw [bR e,bR e,ap (fun z=>hk (e.trans z))]
  ·rw [aZ e,aZ e,ih]
theorem sU (kvs:List (κ×V)) (k j:κ) (y:V):bH (bF kvs k y) j=if j=k then some y else bH kvs j:=by
 unfold bF
 by_cases a:(kvs.any fun kv=>decide (kv.1=k))=true
 ·rw [bh a,yX]
  rw [gB] at a
  by_cases e:j=k
  ·obtain ⟨x,hx⟩:=yd.mp a
   rw [bh e,e,hx,vd,bh rfl]
  ·rw [ap e]
   cases bH kvs j with
   |none=>rfl
   |some x=>rw [vd,ap e]
 ·rw [ap a]
  refine wI k j y kvs ?_
  rw [gB] at a
  cases q:bH kvs k with
  |none=>rfl
  |some x=>rw [q] at a;exact (a rfl).elim
theorem dG (kvs:List (κ×V)) (k:κ) (v:V):(bF kvs k v).length<=kvs.length+1:=by
 unfold bF
 split
 ·rw [ae];omega
 ·rw [cq,dq,List.length_nil];omega
theorem jM {kvs:List (κ×V)}{k:κ}(v:V) (h:bH kvs k=none):bF kvs k v=kvs++[(k,v)]:=by
 unfold bF
 rw [gB,h]
 exact ap (by decide)
theorem hE.isSome_eq {o:Option V}{u:Option Value}(r:hE o u):o.isSome=u.isSome:=by
 cases o with
 |none=>cases u with
  |none=>rfl
  |some _=>exact (show False from r).elim
 |some _=>cases u with
  |none=>exact (show False from r).elim
  |some _=>rfl
theorem hE.getD {o:Option V}{u:Option Value}{d:V}{d':Value}(r:hE o u) (rd:aX d d'):aX (o.getD d) (u.getD d'):=by
 cases o with
 |none=>cases u with
  |none=>exact rd
  |some _=>exact (show False from r).elim
 |some _=>cases u with
  |none=>exact (show False from r).elim
  |some _=>exact r
theorem KV.val {kvs:List (κ×V)}{vs:List (κ×Value)}(r:KV kvs vs) (k:κ):hE (bH kvs k) (valueAt vs k):=by
 unfold KV at r
 induction r with
 |nil=>exact gm
 |@cons p q ps qs h t ih =>
  obtain ⟨h1,h2⟩:=h
  by_cases e:p.1=k
  ·have e':q.1=k:=h1.symm.trans e
   have b:valueAt (q :: qs) k=some q.2:=by simp [valueAt,List.find?_cons,e']
   rw [bR e,b];exact h2
  ·have e':¬ q.1=k:=fun z=>e (h1.trans z)
   have b:valueAt (q :: qs) k=valueAt qs k:=by simp [valueAt,List.find?_cons,e']
   rw [aZ e,b];exact ih
theorem KV.any {kvs:List (κ×V)}{vs:List (κ×Value)}(r:KV kvs vs) (k:κ):(kvs.any fun kv=>decide (kv.1=k))=vs.any fun kv=>decide (kv.1=k):=by
 unfold KV at r
 induction r with
 |nil=>rfl
 |cons h t ih=>rw [qt,qt,ih,h.1]
theorem KV.repl {kvs:List (κ×V)}{vs:List (κ×Value)}(r:KV kvs vs) (k:κ) {y:V}{u:Value}(ry:aX y u) :
  KV (kvs.map fun kv=>if kv.1=k then (kv.1,y) else kv) (vs.map fun kv=>if kv.1=k then (kv.1,u) else kv):=by
 unfold KV at r ⊢
 induction r with
 |nil=>exact .nil
 |@cons p q ps qs h t ih =>
  rw [au,au]
  refine .cons ?_ ih
  obtain ⟨h1,h2⟩:=h
  by_cases e:p.1=k
  ·rw [bh e,bh (h1.symm.trans e)];exact ⟨h1,ry⟩
  ·rw [ap e,ap (fun z=>e (h1.trans z))];exact ⟨h1,h2⟩
theorem KV.put {kvs:List (κ×V)}{vs:List (κ×Value)}(r:KV kvs vs) (k:κ) {y:V}{u:Value}(ry:aX y u):KV (bF kvs k y) (stored vs k u):=by
 unfold bF stored
 rw [r.any k]
 by_cases e:(vs.any fun kv=>decide (kv.1=k))=true
 ·rw [bh e,bh e];exact r.repl k ry
 ·rw [ap e,ap e];exact aBz r ⟨rfl,ry⟩
theorem KV.length {kvs:List (κ×V)}{vs:List (κ×Value)}(r:KV kvs vs):kvs.length=vs.length:=gj r
end
theorem nW {P:Program}{w:World}{k:Key}{u:Value}(r:aX (kV k) u):(bL P w).is k u=true:=by
 cases k with
 |inl i=>obtain ⟨t,e⟩:=(show ∃ t,u=Value.int i t from r);subst e;exact yT P w i t
 |inr x=>obtain ⟨t,e⟩:=(show ∃ t,u=Value.str x t from r);subst e;exact aA7 P w x t
theorem vW {P:Program}{w:World}:∀ {ks:List Key}{us:List Value},bB (ks.map kV) us->ItemsAre (bL P w) ks us
 |[],_,r=>by rw [jf] at r;cases r;exact .nil
 |k :: ks,_,r=>by
  rw [au] at r
  cases r with
  |cons h t=>exact .cons (nW h) (vW t)
abbrev KT (H:Hp):List (List Key×V)->List (List Key×Addr×Value)->Prop:=Paired fun p q=>p.1=q.1/\H q.2.1=some (.tup (p.1.map kV))/\aX p.2 q.2.2
theorem KT.val {H:Hp}{kvs:List (List Key×V)}{xs:List (List Key×Addr×Value)}(r:KT H kvs xs) (k:List Key):hE (bH kvs k) ((atKey xs k).map (·.2)):=by
 induction r with
 |nil=>exact gm
 |@cons p q ps qs h t ih =>
  obtain ⟨h1,_,h2⟩:=h
  by_cases e:p.1=k
  ·have e':q.1=k:=h1.symm.trans e
   have b:atKey (q :: qs) k=some q.2:=by simp [atKey,List.find?_cons,e']
   rw [bR e,b];exact h2
  ·have e':¬ q.1=k:=fun z=>e (h1.trans z)
   have b:atKey (q :: qs) k=atKey qs k:=by simp [atKey,List.find?_cons,e']
   rw [aZ e,b];exact ih
theorem KT.repl {H:Hp}{kvs:List (List Key×V)}{xs:List (List Key×Addr×Value)}(r:KT H kvs xs) (k:List Key) {y:V}{u:Value}(ry:aX y u) :
  KT H (kvs.map fun kv=>if kv.1=k then (kv.1,y) else kv) (xs.map (putAt k u)):=by
 induction r with
 |nil=>exact .nil
 |@cons p q ps qs h t ih =>
  rw [au,au]
  refine .cons ?_ ih
  obtain ⟨h1,h2,h3⟩:=h
  unfold putAt
  by_cases e:p.1=k
  ·rw [bh e,bh (h1.symm.trans e)];exact ⟨h1,h2,ry⟩
  ·rw [ap e,ap (fun z=>e (h1.trans z))];exact ⟨h1,h2,h3⟩
theorem KT.put {H:Hp}{kvs:List (List Key×V)}{xs:List (List Key×Addr×Value)}(r:KT H kvs xs) (k:List Key) {b:Addr}{y:V}{u:Value}(hb:H b=some (.tup (k.map kV))) (ry:aX y u) :
  KT H (bF kvs k y) (storedH xs k b u):=by
 have e:(kvs.any fun kv=>decide (kv.1=k))=(atKey xs k).isSome:=by
  rw [gB,(r.val k).isSome_eq,ol]
 unfold bF storedH
 rw [e]
 by_cases q:(atKey xs k).isSome=true
 ·rw [bh q,bh q];exact r.repl k ry
 ·rw [ap q,ap q];exact aBz r ⟨rfl,hb,ry⟩
theorem KT.keeps {H H':Hp}{kvs:List (List Key×V)}{xs:List (List Key×Addr×Value)}(r:KT H kvs xs) (ht:∀ b ys,H b=some (.tup ys)->H' b=some (.tup ys)):KT H' kvs xs :=
 Paired.mapP r fun _ _ z=>⟨z.1,ht _ _ z.2.1,z.2.2⟩
section
variable {P:Program}{w:World}{H:Hp}{h:Heap}{a:Addr}
theorem aN1 {u:HO}(ok:lX P w H h) (e:Rd H a u):bO P w H h a u:=e.ok ok
theorem qP {kvs:List (Key×V)}(ok:lX P w H h) (e:Rd H a (.dK kvs)):kvs.length<=sizeLine/\(a == sysModules)=false/\∃ vs,KV kvs vs/\h.DictOf (bL P w) a vs :=
 show bO P w H h a (.dK kvs) from aN1 ok e
theorem aA5 {kvs:List (Key×V)}(ok:lX P w H h) (e:H a=some (.dK kvs)):kvs.length<=sizeLine/\(a == sysModules)=false/\∃ vs,KV kvs vs/\h.DictOf (bL P w) a vs:=qP ok (.inl e)
theorem lQ {ks:List Key}(ok:lX P w H h) (e:H a=some (.tup (ks.map kV))):(tupleKind (bL P w)).is h ks a:=by
 obtain ⟨_,its,r,o,h1,h2,n,h3,_⟩:=(show bO P w H h a (.tup (ks.map kV)) from ok a _ e)
 exact ⟨o,its.toArray,n,h1,h2,h3,by simpa using vW r⟩
theorem qM {kvs:List (List Key×V)}(ok:lX P w H h) (e:Rd H a (.dT kvs)):kvs.length<=sizeLine/\(a == sysModules)=false /\
  ∃ xs,KT H kvs xs/\h.DictOfH (tupleKind (bL P w)) a xs:=by
 obtain ⟨z,y,xs,r,o,es,ep,h1,h2,h3,h4,h5⟩:=(show bO P w H h a (.dT kvs) from aN1 ok e)
 exists z,y,xs,r,o,es,ep,h1,h2,h3,h4,fun x hx=>?_,h5
 have all:∀ {l:List (List Key×V)}{m:List (List Key×Addr×Value)},KT H l m->∀ x∈m,(tupleKind (bL P w)).is h x.1 x.2.1:=by
  intro l m q
  induction q with
  |nil=>intro x hx;exact nomatch hx
  |@cons p q ps qs hq t ih =>
   intro x hx
   rcases bo.mp hx with e | hx
   ·subst e
    exact lQ ok (by rw [<- hq.1];exact hq.2.1)
   ·exact ih x hx
 exact all r x hx
theorem aX4 {kvs:List (List Key×V)}(ok:lX P w H h) (e:H a=some (.dT kvs)):kvs.length<=sizeLine/\(a == sysModules)=false /\
  ∃ xs,KT H kvs xs/\h.DictOfH (tupleKind (bL P w)) a xs:=qM ok (.inl e)
end
def fJ (H:Hp) (a:Addr) (y:V) (r:Option V):Prop :=
 (∃ kvs k,Rd H a (.dK kvs)/\y=kV k/\r=bH kvs k)\/∃ kvs k b,Rd H a (.dT kvs)/\y= .ref b/\H b=some (.tup (k.map kV))/\r=bH kvs k
def kB (H:Hp) (a:Addr) (y v:V) (H':Hp):Prop :=
 (∃ kvs k,H a=some (.dK kvs)/\y=kV k/\kvs.length < sizeLine/\H'=aJ H a (.dK (bF kvs k v))) \/
 ∃ kvs k b,H a=some (.dT kvs)/\y= .ref b/\H b=some (.tup (k.map kV))/\kvs.length < sizeLine/\H'=aJ H a (.dT (bF kvs k v))
theorem fJ.k {H:Hp}{a:Addr}{kvs:List (Key×V)}{k:Key}(e:H a=some (.dK kvs)):fJ H a (kV k) (bH kvs k):= .inl ⟨kvs,k,.inl e,rfl,rfl⟩
theorem fJ.t {H:Hp}{a b:Addr}{kvs:List (List Key×V)}{k:List Key}(e:H a=some (.dT kvs)) (eb:H b=some (.tup (k.map kV))):fJ H a (.ref b) (bH kvs k):= .inr ⟨kvs,k,b,.inl e,rfl,eb,rfl⟩
theorem kB.k {H:Hp}{a:Addr}{kvs:List (Key×V)}{k:Key}{v:V}(e:H a=some (.dK kvs)) (hl:kvs.length < sizeLine):kB H a (kV k) v (aJ H a (.dK (bF kvs k v))):= .inl ⟨kvs,k,e,rfl,hl,rfl⟩
theorem kB.t {H:Hp}{a b:Addr}{kvs:List (List Key×V)}{k:List Key}{v:V}(e:H a=some (.dT kvs)) (eb:H b=some (.tup (k.map kV))) (hl:kvs.length < sizeLine) :
  kB H a (.ref b) v (aJ H a (.dT (bF kvs k v))):= .inr ⟨kvs,k,b,e,rfl,eb,hl,rfl⟩
section
variable {X:Cx}{pins:List (Addr×Obj)}{σ: St}{H:Hp}{s:Shared}{a:Addr}{y v:V}{u r:Value}{o:Option V}{A:Around}{E:Value->Shared->Prop}
theorem aQ.big (I:aQ X pins σ H s):sysModules < s.heap.objs.size:=by
 have h:mainGlobals < s.heap.objs.size:=(I.mod.glob.keeps I.bk).lt
 exact Nat.lt_trans (by decide) h
theorem pM {Q:Value->Shared->Prop}(hu:A.units+1 < cLine) (I:aQ X pins σ H s) (g:fJ H a y (some v)) (ry:aX y u) (h:∀ w' s',aQ X pins σ H s'->aX v w'->Q w' s') :
  wpAny (model X.prog X.w) A (getItem (.ref a) u) Q E s:=by
 rcases g with ⟨kvs,k,e,ey,l⟩ | ⟨kvs,k,b,e,ey,eb,l⟩
 ·subst ey
  obtain ⟨z,hd,vs,rel,dd⟩:=qP I.hok e
  obtain ⟨w',hw,rw'⟩:=hE.some_of (v:=v) (o:=valueAt vs k) (by rw [l];exact rel.val k)
  exact wpAny_getItem_of (nW ry) dd.mapOf hw (h w' _ (I.tok _) rw')
 ·subst ey
  cases (show u=Value.ref b from ry)
  obtain ⟨z,hd,xs,rel,dd⟩:=qM I.hok e
  obtain ⟨w',hw,rw'⟩:=hE.some_of (v:=v) (o:=(atKey xs k).map (·.2)) (by rw [l];exact rel.val k)
  obtain ⟨p,hp,hp2⟩:=ju.mp hw
  refine aBm (pz hu) (lQ I.hok eb) dd hp ?_
  rw [hp2]
  exact h w' _ (I.tok _) rw'
theorem cH3 {Q:Value->Shared->Prop}(hu:A.units+1 < cLine) (I:aQ X pins σ H s) (g:fJ H a y o) (ry:aX y u) (h:∀ s',aQ X pins σ H s'->Q (.bool o.isSome) s') :
  wpAny (model X.prog X.w) A (compareOp .In u (.ref a)) Q E s:=by
 rcases g with ⟨kvs,k,e,ey,l⟩ | ⟨kvs,k,b,e,ey,eb,l⟩
 ·subst ey
  obtain ⟨z,hd,vs,rel,dd⟩:=qP I.hok e
  refine wpAny_in_of (nW ry) hd dd.mapOf ?_
  rw [<- (rel.val k).isSome_eq, <- l]
  exact h _ (I.tok _)
 ·subst ey
  cases (show u=Value.ref b from ry)
  obtain ⟨z,hd,xs,rel,dd⟩:=qM I.hok e
  refine wpAny_in_heap (pz hu) (lQ I.hok eb) hd dd ?_
  have q:=(rel.val k).isSome_eq
  rw [ol] at q
  rw [<- q, <- l]
  exact h _ (I.tok _)
theorem bK4 {Q:Value->Shared->Prop}(hu:A.units+1 < cLine) (I:aQ X pins σ H s) (g:fJ H a y o) (ry:aX y u) (h:∀ s',aQ X pins σ H s'->Q (.bool (!o.isSome)) s') :
  wpAny (model X.prog X.w) A (compareOp .NotIn u (.ref a)) Q E s:=by
 rcases g with ⟨kvs,k,e,ey,l⟩ | ⟨kvs,k,b,e,ey,eb,l⟩
 ·subst ey
  obtain ⟨z,hd,vs,rel,dd⟩:=qP I.hok e
  refine wpAny_notIn_of (nW ry) hd dd.mapOf ?_
  rw [<- (rel.val k).isSome_eq, <- l]
  exact h _ (I.tok _)
 ·subst ey
  cases (show u=Value.ref b from ry)
  obtain ⟨z,hd,xs,rel,dd⟩:=qM I.hok e
  refine wpAny_notIn_heap (pz hu) (lQ I.hok eb) hd dd ?_
  have q:=(rel.val k).isSome_eq
  rw [ol] at q
  rw [<- q, <- l]
  exact h _ (I.tok _)
theorem iX {h':Heap}{t':Nat}{ob:HO}(I:aQ X pins σ H s) (mu:Mut (H a)) (hs:Heap.SameBut a s.heap h') (he:∃ q,h'.get? a=some q) (new:bO X.prog X.w (aJ H a ob) h' a ob) :
  aQ X pins σ (aJ H a ob) { s with heap:=h',toks:=t' } :=
 I.write (x:=a) (e:=a) mu (.inl rfl) (fun b q hb z=>(hs.2 b hb).trans z) he new
theorem yL {P:Program}{w:World}{H':Hp}{h':Heap}{kvs:List (Key×V)}{vs:List (Key×Value)}(z:kvs.length<=sizeLine) (hd:(a == sysModules)=false) (rel:KV kvs vs) (dd:h'.DictOf (bL P w) a vs) :
  bO P w H' h' a (.dK kvs):=⟨z,hd,vs,rel,dd⟩
theorem pL {H':Hp}{Q:Unit->Shared->Prop}(hu:A.units+1 < cLine) (I:aQ X pins σ H s) (g:kB H a y v H') (ry:aX y u) (rv:aX v r) (h:∀ s',aQ X pins σ H' s'->Q () s') :
  wpAny (model X.prog X.w) A (setItem (.ref a) u r) Q E s:=by
 rcases g with ⟨kvs,k,e,ey,l,eH⟩ | ⟨kvs,k,b,e,ey,eb,l,eH⟩
 ·subst ey eH
  obtain ⟨z,hd,vs,rel,dd⟩:=aA5 I.hok e
  have hz:vs.length<=sizeLine:=by rw [<- rel.length];exact z
  have hl:(bF kvs k v).length<=sizeLine:=by have:=dG kvs k v;omega
  refine wpAny_setItem_pairs (hsz:=hz) (nW ry) dd fun h' dd' hs=>h _ ?_
  have he:∃ q,h'.get? a=some q:=by obtain ⟨q,_,_,hq,_⟩:=dd';exact ⟨q,hq⟩
  exact iX I (by rw [e];exact gm) hs he (yL hl hd (rel.put k rv) dd')
 ·subst ey eH
  cases (show u=Value.ref b from ry)
  obtain ⟨z,hd,xs,rel,dd⟩:=aX4 I.hok e
  have hz:xs.length<=sizeLine:=by rw [<- gj rel];exact z
  have hl:(bF kvs k v).length<=sizeLine:=by have:=dG kvs k v;omega
  refine aBn (hsz:=hz) (pz hu) (lQ I.hok eb) dd fun h' dd' hs=>h _ ?_
  obtain ⟨q,es,ep,hq,h2,h3,h4,_,h5⟩:=dd'
  refine iX I (by rw [e];exact gm) hs ⟨q,hq⟩ ⟨hl,hd,_,(rel.put k eb rv).keeps fun c ys ec=>?_,q,es,ep,hq,h2,h3,h4,h5⟩
  rw [aE (bN ec e (fun z=>nomatch z))]
  exact ec
end
section
variable {X:Cx}{pins:List (Addr×Obj)}{σ: St}{H:Hp}{s:Shared}{a:Addr}{kvs:List (Key×V)}{k:Key}{u:Value}{A:Around}{E:Value->Shared->Prop}
end
def aY2 (i:Expr):Prop:=∀ ov iv,subscripted i false ov iv=operate [ov,iv] (getItem ov iv)
theorem aL8 {prog:Program}{w:World}{A:Around}{E:Value->Shared->Prop}{s:Shared}{env:Env}{value slice:Expr}{pos:Pos}{T id:String}{Q:Value->Shared->Prop}
  (hl:typeLookup (.type T) "__getitem__"=pure (some (.builtin id))) (hs:aY2 slice)
  (h:wpAny (model prog w) A (eval value env) (fun o s₁=>wpAny (model prog w) A (eval slice env) (fun i s₂=>s₂.TypeIs o T/\wpAny (model prog w) A (getItem o i) Q E s₂) E s₁) E s) :
  wpAny (model prog w) A (eval (.Subscript value slice pos) env) Q E s:=by
 refine Subscript_ (gh h (fun o s₁ h₁=>gh h₁ (fun i s₂ h₂=>?_) fun _ _ x=>x) fun _ _ x=>x)
 obtain ⟨hT,h₂⟩:=h₂
 unfold subscriptTail
 refine aa ?_
 rw [getitemInPython_of_ne hT.not_modules]
 refine aa (kh hT hl ?_)
 have fin:wpAny (model prog w) A (subscripted slice false o i) (fun r s₃=>wpAny (model prog w) A (letTemporaryGo value o r >>= fun _=>pure r) Q E s₃) E s₂:=by
  rw [hs o i]
  exact wpAny_operating (gh h₂ (fun r s₃ h₃=>aa (wpAny_letTemporaryGo (aj h₃))) fun _ _ x=>x)
 first
  |exact aj (aa fin)
  |exact aa (aj (aa fin))
  |exact aa fin
theorem qK {X:Cx}{pins:List (Addr×Obj)}{σ: St}{H:Hp}{s:Shared}{a:Addr}{y:V}{o:Option V}(I:aQ X pins σ H s) (g:fJ H a y o):s.TypeIs (.ref a) "dict":=by
 rcases g with ⟨kvs,k,e,_,_⟩ | ⟨kvs,k,b,e,_,_,_⟩
 ·obtain ⟨_,_,vs,_,dd⟩:=qP I.hok e
  exact dd.typeIs
 ·obtain ⟨_,_,xs,_,dd⟩:=qM I.hok e
  exact dd.typeIs
def bN5 (td ty:TE):TE:=fun σ H Q=>td σ H fun x H1=>ty σ H1 fun y H2=>∃ a v,x= .ref a/\fJ H2 a y (some v)/\Q v H2
def cI1 (ty td:TE):TE:=fun σ H Q=>ty σ H fun y H1=>td σ H1 fun x H2=>∃ a o,x= .ref a/\fJ H2 a y o/\Q (.bl o.isSome) H2
def bM4 (td ty tv:TE):TS:=fun D σ H=>tv σ H fun v H1=>td σ H1 fun x H2=>ty σ H2 fun y H3=>∃ a H4,x= .ref a/\kB H3 a y v H4/\D.nx σ H4
def cD4 (td ty tv:TE) (rd:V->V->Hp->VK->Prop):TS:=fun D σ H=>td σ H fun x H1=>ty σ H1 fun y H2=>∃ a v,x= .ref a/\fJ H2 a y (some v) /\
 tv σ H2 fun y2 H3=>rd v y2 H3 fun z H4=>∃ H5,kB H4 a y z H5/\D.nx σ H5
section
variable {X:Cx}{o i e value:Expr}{pos pos' tpos:Pos}{td ty tv:TE}
theorem iW (hu:X.A.units+1 < cLine) (ho:PE X o td) (hi:PE X i ty) (hs:aY2 i):PE X (.Subscript o i pos) (bN5 td ty):=by
 intro pins s σ H Q I h
 refine aL8 PySem.F.slot_dict_getitem.lookup hs (cO (ho pins s σ H _ I h) ?_);rintro u s1 ⟨x,H1,I1,rx,q1⟩;refine cO (hi pins s1 σ H1 _ I1 q1) ?_;rintro iv s2 ⟨y,H2,I2,ry,a,v,ex,g,q2⟩
 subst ex
 obtain rfl:u=Value.ref a:=rx
 exact ⟨qK I2 g,pM hu I2 g ry fun w' s3 I3 rw'=>⟨v,H2,I3,rw',q2⟩⟩
theorem uH (hu:X.A.units+1 < cLine) (hi:PE X i ty) (ho:PE X o td):PC X .In i o (cI1 ty td):=by
 intro pins s σ H Q I h
 refine cO (hi pins s σ H _ I h) ?_;rintro iv s1 ⟨y,H1,I1,ry,q1⟩;refine cO (ho pins s1 σ H1 _ I1 q1) ?_;rintro u s2 ⟨x,H2,I2,rx,a,ov,ex,g,q2⟩
 subst ex
 obtain rfl:u=Value.ref a:=rx
 exact cH3 hu I2 g ry fun s3 I3=>⟨.bl ov.isSome,H2,I3,rfl,q2⟩
theorem rN (hu:X.A.units+1 < cLine) (ho:PE X o td) (hi:PE X i ty) (hv:PE X value tv) (hs:swapsWith value (some (.Subscript o i pos')) pos.line X.env=pure false) :
  PS X (.Assign [.Subscript o i pos'] value pos) (bM4 td ty tv):=by
 intro pins s σ H D I h
 refine zi (cO (hv pins s σ H _ I h) ?_) hs;rintro r s1 ⟨v,H1,I1,rv,q1⟩;refine cO (ho pins s1 σ H1 _ I1 q1) ?_;rintro u s2 ⟨x,H2,I2,rx,q2⟩;refine cO (hi pins s2 σ H2 _ I2 q2) ?_;rintro iv s3 ⟨y,H3,I3,ry,a,H4,ex,g,q3⟩
 subst ex
 obtain rfl:u=Value.ref a:=rx
 exact pL hu I3 g ry rv fun s4 I4=>⟨σ,H4,I4,q3⟩
theorem aL7 {op:Operator}{rd:V->V->Hp->VK->Prop}(hu:X.A.units+1 < cLine) (ho:PE X o td) (hi:PE X i ty) (hv:PE X value tv) (hop:bY2 X op rd)
  (ha:∀ ov iv new,augStore i ov iv new=(do holding [new,ov,iv] (setItem ov iv new);release [new,ov,iv] [];pure .next)):PS X (.AugAssign (.Subscript o i tpos) op value pos) (cD4 td ty tv rd):=by
 intro pins s σ H D I h
 refine wj (cO (ho pins s σ H _ I h) ?_) ha;rintro u s1 ⟨x,H1,I1,rx,q1⟩;refine cO (hi pins s1 σ H1 _ I1 q1) ?_;rintro iv s2 ⟨y,H2,I2,ry,a,v,ex,g,q2⟩
 subst ex
 obtain rfl:u=Value.ref a:=rx
 refine pM hu I2 g ry fun w' s3 I3 rw'=>cO (hv pins s3 σ H2 _ I3 q2) fun w2 s4 ⟨y2,H3,I4,ry2,q3⟩=>cO (hop pins s4 σ H3 v y2 w' w2 _ I4 rw' ry2 q3) fun w3 s5 ⟨z,H4,I5,rz,H5,g5,q4⟩=>?_
 exact pL hu I5 g5 ry rz fun s6 I6=>⟨σ,H5,I6,q4⟩
end
theorem oQ {P:Program}{w:World}{H:Hp}(h:Heap) (hb:sysModules < h.objs.size):bO P w H (h.push { cls:= .type "dict",data:= .dict #[] }) h.objs.size (.dK []) :=
 ⟨df _,jq.mpr (Ne.symm (cw hb)),[],.nil,Heap.DictOf.new h⟩
theorem uB {P:Program}{w:World}{H:Hp}(h:Heap) (hb:sysModules < h.objs.size):bO P w H (h.push { cls:= .type "dict",data:= .dict #[] }) h.objs.size (.dT []) :=
 ⟨df _,jq.mpr (Ne.symm (cw hb)),[],.nil,_, #[],0,aq _ rfl,⟨rfl,rfl,rfl⟩,rfl,rfl,jj⟩
def tDNewK:TE:=fun _ H Q=>∀ p,H p=none->Q (.ref p) (aJ H p (.dK []))
def tDNewT:TE:=fun _ H Q=>∀ p,H p=none->Q (.ref p) (aJ H p (.dT []))
section
variable {X:Cx}{pos:Pos}
theorem aX7:PE X (.Dict [] [] pos) tDNewK:=fun pins s σ H Q I h =>
 wpAny_Dict_empty ⟨.ref s.heap.objs.size,_,I.laid (a:=s.heap.objs.size) (o:= .dK []) (t':=s.toks) (fun _ _ q=>af _ q) (ao _) (oQ s.heap I.big),rfl,h _ (I.hok.fresh (ao _))⟩
theorem aV0:PE X (.Dict [] [] pos) tDNewT:=fun pins s σ H Q I h =>
 wpAny_Dict_empty ⟨.ref s.heap.objs.size,_,I.laid (a:=s.heap.objs.size) (o:= .dT []) (t':=s.toks) (fun _ _ q=>af _ q) (ao _) (uB s.heap I.big),rfl,h _ (I.hok.fresh (ao _))⟩
end
def aI7:List (TE×TE)->St->Hp->(List (V×V)->Hp->Prop)->Prop
 |[],_,H,Q=>Q [] H
 |(tk,tv) :: r,σ,H,Q=>tk σ H fun x H1=>tv σ H1 fun y H2=>aI7 r σ H2 fun ps H3=>Q ((x,y) :: ps) H3
abbrev VV:List (V×V)->List (Value×Value)->Prop:=Paired fun p q=>aX p.1 q.1/\aX p.2 q.2
def PPs (X:Cx) (pos:Pos) (keys:List (Option Expr)) (values:List Expr) (trs:List (TE×TE)):Prop :=
 ∀ (pins:List (Addr×Obj)) (s:Shared) (σ: St) (H:Hp) (Q:List (V×V)->Hp->Prop),aQ X pins σ H s->aI7 trs σ H Q ->
  wpAny (model X.prog X.w) X.A (evalPairs (pairTrees keys values X.env pos)) (fun vs s'=>∃ ps H',aQ X pins σ H' s'/\VV ps vs/\Q ps H') X.xe s
theorem bL6 {X:Cx}{pos:Pos}:PPs X pos [] [] []:=fun pins s σ H Q I h=>pairTrees_nil_walk ⟨[],H,I,.nil,h⟩
theorem sK {X:Cx}{pos:Pos}{k v:Expr}{ks:List (Option Expr)}{vs:List Expr}{tk tv:TE}{trs:List (TE×TE)}(hk:PE X k tk) (hv:PE X v tv) (hr:PPs X pos ks vs trs) :
  PPs X pos (some k :: ks) (v :: vs) ((tk,tv) :: trs):=fun pins s σ H Q I h =>
 pairTrees_cons_walk (cO (hk pins s σ H _ I h) fun u s1 ⟨x,H1,I1,rx,q1⟩=>cO (hv pins s1 σ H1 _ I1 q1) fun w2 s2 ⟨y,H2,I2,ry,q2⟩ =>
  cO (hr pins s2 σ H2 _ I2 q2) (by rintro ws s3 ⟨ps,H3,I3,rel,q3⟩;exact ⟨(x,y) :: ps,H3,I3,.cons ⟨rx,ry⟩ rel,q3⟩))
def lR (kvs more:List (Key×V)):List (Key×V):=more.foldl (fun acc kv=>bF acc kv.1 kv.2) kvs
theorem KV.merge:∀ {more:List (Key×V)}{rs:List (Key×Value)}{kvs:List (Key×V)}{vs:List (Key×Value)},KV more rs->KV kvs vs->KV (lR kvs more) (merged vs rs):=by
 intro more rs kvs vs r
 unfold KV at r
 induction r generalizing kvs vs with
 |nil=>intro q;exact q
 |@cons p q ps qs h t ih =>
  intro r0
  have e:KV (bF kvs p.1 p.2) (stored vs q.1 q.2):=by
   have:=r0.put p.1 h.2
   rw [<- h.1];exact this
  exact ih e
theorem mV:∀ (more kvs:List (Key×V)),(lR kvs more).length<=kvs.length+more.length
 |[],kvs=>by show kvs.length<=kvs.length+0;omega
 |p :: r,kvs=>by
  have h1:=mV r (bF kvs p.1 p.2)
  have h2:=dG kvs p.1 p.2
  show (lR (bF kvs p.1 p.2) r).length<=_
  rw [dq];omega
theorem tL {P:Program}{w:World}:∀ {kvs:List (Key×V)}{ws:List (Value×Value)},VV (kvs.map fun kv=>(kV kv.1,kv.2)) ws->∃ rs,Carries (bL P w) ws rs/\KV kvs rs
 |[],_,r=>by rw [jf] at r;cases r;exact ⟨[],gm,.nil⟩
 |p :: kvs,_,r=>by
  rw [au] at r
  cases r with
  |@cons a b as bs h t =>
   obtain ⟨rs,c,q⟩:=tL (P:=P) (w:=w) t
   obtain ⟨b1,b2⟩:=b
   exact ⟨(p.1,b2) :: rs,⟨nW h.1,rfl,c⟩,.cons ⟨rfl,h.2⟩ q⟩
def cD0 (trs:List (TE×TE)):TE:=fun σ H Q=>∀ p,H p=none->aI7 trs σ (aJ H p (.dK [])) fun ps H2=>H2 p=some (.dK [])/\∃ kvs:List (Key×V),ps=kvs.map (fun kv=>(kV kv.1,kv.2))/\kvs.length<=15/\Q (.ref p) (aJ H2 p (.dK (lR [] kvs)))
theorem bH0 {X:Cx}{pos:Pos}{keys:List (Option Expr)}{values:List Expr}{trs:List (TE×TE)}(h:PPs X pos keys values trs) (hall:keys.all (·.isSome)=true) (hl:keys.length=values.length) (h0:keys≠[])
  (h15:keys.length<=15):PE X (.Dict keys values pos) (cD0 trs):=by
 intro pins s σ H Q I q
 have hn:=I.hok.fresh (ao s.heap.objs.size)
 have I1:=I.laid (a:=s.heap.objs.size) (o:= .dK []) (h':=s.heap.push { cls:= .type "dict",data:= .dict #[] }) (t':=s.toks) (fun _ _ q=>af _ q) (ao _) (oQ s.heap I.big)
 refine wpAny_Dict_walk (knd:=bL X.prog X.w) hall hl h0 h15 (cO (h pins _ σ _ _ I1 (q _ hn)) ?_);rintro ws s2 ⟨ps,H2,I2,rel,e,kvs,ep,lk,q2⟩
 subst ep
 obtain ⟨rs,c,rk⟩:=tL (P:=X.prog) (w:=X.w) rel
 obtain ⟨z,hd,vs0,r0,dd⟩:=aA5 I2.hok e
 cases r0
 exists rs,c,dd,fun h' dd' hs=>⟨.ref s.heap.objs.size,_,?_,rfl,q2⟩
 have hz:(lR [] kvs).length<=sizeLine:=by
  have h1:=mV kvs []
  rw [List.length_nil] at h1
  rw [qz];omega
 have he:∃ q,h'.get? s.heap.objs.size=some q:=by obtain ⟨q,_,_,hq,_⟩:=dd';exact ⟨q,hq⟩
 exact iX I2 (by rw [e];exact gm) hs he (yL hz hd (rk.merge .nil) dd')
structure M1 (X:Cx) (o:Expr) (m:Str) (apos:Pos) (e:Expr) (cpos:Pos):Prop where
 base:attributeBase o m X.env (eval o X.env)=eval o X.env
 few:((backTo cpos (starEach [e] X.env)).all (fun x=> !x.1) && (backToKw cpos (keywordEach [] X.env)).all (fun x=>x.1.isSome)
  && decide (([e]:List Expr).length+([]:List Keyword).length+(if ([]:List Keyword).isEmpty then 0 else 1) < 30))=true
 line:(apos.endLine == cpos.line)=true
 trees:backTo cpos (starEach [e] X.env)=[(false,eval e X.env)]
structure M2 (X:Cx) (o:Expr) (m:Str) (apos:Pos) (e f:Expr) (cpos:Pos):Prop where
 base:attributeBase o m X.env (eval o X.env)=eval o X.env
 few:((backTo cpos (starEach [e,f] X.env)).all (fun x=> !x.1) && (backToKw cpos (keywordEach [] X.env)).all (fun x=>x.1.isSome)
  && decide (([e,f]:List Expr).length+([]:List Keyword).length+(if ([]:List Keyword).isEmpty then 0 else 1) < 30))=true
 line:(apos.endLine == cpos.line)=true
 trees:backTo cpos (starEach [e,f] X.env)=[(false,eval e X.env),(false,eval f X.env)]
def IsD (H:Hp) (a:Addr):Prop:=(∃ kvs,Rd H a (.dK kvs))\/∃ kvs,Rd H a (.dT kvs)
theorem bA2 {X:Cx}{pins:List (Addr×Obj)}{σ: St}{H:Hp}{s:Shared}{a:Addr}(I:aQ X pins σ H s) (d:IsD H a) :
  s.TypeIs (.ref a) "dict"/\(∀ b,Value.ref a= .ref b->∃ ob,s.heap.get? b=some ob/\ob.dict=none)/\(a == sysModules)=false:=by
 rcases d with ⟨kvs,e⟩ | ⟨kvs,e⟩
 ·obtain ⟨_,hd,vs,_,dd⟩:=qP I.hok e
  exists dd.typeIs,fun b q=>?_,hd
  cases q
  obtain ⟨ob,_,_,h1,h2,_⟩:=dd
  exact ⟨ob,h1,h2.2.1⟩
 ·obtain ⟨_,hd,xs,_,dd⟩:=qM I.hok e
  exists dd.typeIs,fun b q=>?_,hd
  cases q
  obtain ⟨ob,_,_,h1,h2,_⟩:=dd
  exact ⟨ob,h1,h2.2.1⟩
section
variable {X:Cx}{pins:List (Addr×Obj)}{σ: St}{H:Hp}{s:Shared}{a:Addr}{y d:V}{u r:Value}{o:Option V}{A:Around}{E:Value->Shared->Prop}
theorem bQ1 {Q:Value->Shared->Prop}(hu:A.units+1 < cLine) (I:aQ X pins σ H s) (g:fJ H a y o) (ry:aX y u) (rd:aX d r) (h:∀ w' s',aQ X pins σ H s'->aX (o.getD d) w'->Q w' s') :
  wpAny (model X.prog X.w) A (call (.builtin "dict.get") [.ref a,u,r]) Q E s:=by
 rcases g with ⟨kvs,k,e,ey,l⟩ | ⟨kvs,k,b,e,ey,eb,l⟩
 ·subst ey
  obtain ⟨z,hd,vs,rel,dd⟩:=qP I.hok e
  refine aBo ui dd.typeIs zj (yt _ _ _) (meets_dict_get_default (bL X.prog X.w) a (nW ry) hd r) ⟨_,dd.mapOf,h _ _ (I.tok _) ?_⟩
  rw [l]
  exact (rel.val k).getD rd
 ·subst ey
  cases (show u=Value.ref b from ry)
  obtain ⟨z,hd,xs,rel,dd⟩:=qM I.hok e
  refine aBo ui dd.typeIs zj (yt _ _ _) (meetsH_dict_get_default (tupleKind (bL X.prog X.w)) a b hd r) ⟨pz hu,k,xs,lQ I.hok eb,dd,h _ _ (I.tok _) ?_⟩
  rw [l]
  exact (rel.val k).getD rd
end
def bU5 (td ty tx:TE):TE:=fun σ H Q=>td σ H fun x H1=>∃ a,x= .ref a/\IsD H1 a/\ty σ H1 fun y H2=>tx σ H2 fun z H3=>∃ o,fJ H3 a y o/\Q (o.getD z) H3
section
variable {X:Cx}{o e f:Expr}{apos cpos:Pos}{td ty tx:TE}
theorem fR (hu:X.A.units+1 < cLine) (ho:PE X o td) (he:PE X e ty) (hf:PE X f tx) (m:M2 X o "get" apos e f cpos):PE X (.Call (.Attribute o "get" apos) [e,f] [] cpos) (bU5 td ty tx):=by
 intro pins s σ H Q I h
 refine wpAny_Call_method m.base m.few m.line lh ui PySem.F.type_dict_get (cO (ho pins s σ H _ I h) ?_);rintro u s1 ⟨x,H1,I1,rx,a,ex,d,q1⟩
 subst ex
 obtain rfl:u=Value.ref a:=rx
 obtain ⟨t1,t2,_⟩:=bA2 I1 d
 exists t1,t2,?_
 rw [m.trees]
 refine ja rfl (ve (ka (cO (he pins s1 σ H1 _ I1 q1) fun iv s2 ⟨y,H2,I2,ry,q2⟩ =>
  ka (cO (hf pins s2 σ H2 _ I2 q2) fun fv s3 ⟨z,H3,I3,rz,ov,g,q3⟩=>qg ?_))))
 exact bQ1 hu I3 g ry rz fun w' s4 I4 rw'=>⟨_,H3,I4,rw',q3⟩
end
section
variable {X:Cx}{pins:List (Addr×Obj)}{σ: St}{H:Hp}{s:Shared}{a:Addr}{kvs:List (Key×V)}{A:Around}{E:Value->Shared->Prop}
end
section
variable {X:Cx}{pins:List (Addr×Obj)}{σ: St}{H:Hp}{s:Shared}{a:Addr}{y:V}{u:Value}{A:Around}{E:Value->Shared->Prop}
end
end L2
namespace HT
open PySem PyProof.Rows
def lexLt:List Int->List Int->Bool
 |[],[]=>false
 |[],_ :: _=>true
 |_ :: _,[]=>false
 |x :: xs,y :: ys=>if x=y then lexLt xs ys else decide (x < y)
theorem lexLt_cons (x y:Int) (xs ys:List Int):lexLt (x :: xs) (y :: ys)=if x=y then lexLt xs ys else decide (x < y):=rfl
theorem lexLt_nil_nil:lexLt [] []=false:=rfl
theorem uU (y:Int) (ys:List Int):lexLt [] (y :: ys)=true:=rfl
theorem sR (x:Int) (xs:List Int):lexLt (x :: xs) []=false:=rfl
theorem aS9 (A:Around) (s:Shared) (a:Int) (t:Tok) (c:Int) (u:Tok):∃ e,SeqAt.EqAt A s (.int a t) (.int c u) e/\(e=true↔a=c) :=
 ⟨(a == c),SeqAt.EqAt.int_int a t c u,by simp⟩
theorem bA7 (A:Around) (s:Shared) (a:Int) (t:Tok) (c:Int) (u:Tok) (prog:Program) (w:World) (E:Value->Shared->Prop) (Q:Value->Shared->Prop) (h:Q (.bool (decide (a < c))) s) :
  wpAny (model prog w) A (richCompare .Lt (.int a t) (.int c u)) Q E s :=
 (PyProof.Rows.lt_int h:wpAny (model prog w) A (compareOp .Lt (.int a t) (.int c u)) Q E s)
section
open PySem.SeqAt
open PySem.AutoSeq1 (wpAny_loadPart')
open PySem.MeetsSeq PySem.MeetsSeq2 PySem.MeetsSeq3
theorem mU (l b:Addr) (items items2:Array Value) (n n2:Nat) (dd dd2:Option Addr) (sl sl2:Array (Option Value)) (ns ms:List Int) (hi:IntsAre items.toList ns) (hj:IntsAre items2.toList ms) :
  Meets (Builtin.«tuple.__lt__» ⟨[.ref l,.ref b],[]⟩)
   (fun _ R s=>s.heap.get? l=some { cls:= .type "tuple",dict:=dd,data:= .seq items n,slots:=sl }/\s.heap.get? b=some { cls:= .type "tuple",dict:=dd2,data:= .seq items2 n2,slots:=sl2 } /\
    R (.ok (.ret (.bool (lexLt ns ms)))) s) :=
 .of_wp fun prog w A R s h=>by
  obtain ⟨hp,g,d,tk,os⟩:=s;obtain ⟨hl,hb,h⟩:=h
  have f2:=AutoSeq1.sub_tuple_tuple
  have z1:items.size=ns.length:=by rw [<- hi.length];simp
  have z2:items2.size=ms.length:=by rw [<- hj.length];simp
  wp_walk using wpAny_loadPart' hl,wpAny_loadPart' hb,wpAny_forIn_list _ (fun rest b s'=>b.1=none/\s'=⟨hp,g,d,tk,os⟩/\∃ (vs ws:List Value) (ns' ms':List Int),rest=vs.zip ws /\
   IntsAre vs ns'/\IntsAre ws ms'/\ns'.length+items2.size=ms'.length+items.size/\R (.ok (.ret (.bool (lexLt ns' ms')))) ⟨hp,g,d,tk,os⟩) _
  case turn =>
   rintro ⟨y,x⟩ rest b s' ⟨hb',rfl,vs,ws,ns',ms',hz,hvi,hwi,hlen,hR⟩
   cases hvi with
   |nil=>rw [List.zip_nil_left] at hz;cases hz
   |cons a t hvi' =>
    cases hwi with
    |nil=>rw [List.zip_nil_right] at hz;cases hz
    |cons c u hwi' =>
     rw [List.zip_cons_cons] at hz
     injection hz with hyx hrest
     injection hyx with hy hx
     subst hy hx
     rw [lexLt_cons] at hR
     simp only [List.length_cons] at hlen
     obtain ⟨e,he,hiff⟩:=aS9 A.in1 ⟨hp,g,d,tk,os⟩ a t c u
     refine wpAny_bind (he prog w _ _ ?_)
     cases e with
     |true =>
      rw [if_pos (hiff.mp rfl)] at hR
      wp_walk
      exact ⟨rfl,rfl,_,_,_,_,hrest,hvi',hwi',∅,hR⟩
     |false =>
      rw [if_neg (fun q=>absurd (hiff.mpr q) Bool.false_ne_true)] at hR
      have hri:=bA7 A.in1 ⟨hp,g,d,tk,os⟩ a t c u prog w
      wp_walk using hri
      exact ⟨_,rfl,by simpa using hR⟩
  case fin =>
   rintro ⟨b1,b2⟩ s' ⟨hb',rfl,vs,ws,ns',ms',hz,hvi,hwi,hlen,hR⟩
   simp only at hb'
   subst hb'
   have hv:lexLt ns' ms'=decide (items.size < items2.size):=by
    cases hvi with
    |nil =>
     cases hwi with
     |nil =>
      simp only [List.length_nil] at hlen
      rw [lexLt_nil_nil]
      exact (decide_eq_false ∅).symm
     |cons c u hw =>
      simp only [List.length_nil,List.length_cons] at hlen
      rw [uU]
      exact (decide_eq_true ∅).symm
    |cons a t hv =>
     cases hwi with
     |nil =>
      simp only [List.length_nil,List.length_cons] at hlen
      rw [sR]
      exact (decide_eq_false ∅).symm
     |cons c u hw =>
      rw [List.zip_cons_cons] at hz
      cases hz
   rw [hv] at hR
   wp_walk
   exact ⟨_,rfl,by simpa [Builtin.Tuple.tupleCompareSizes] using hR⟩
  case h =>
   exact ⟨rfl,rfl,items.toList,items2.toList,ns,ms,rfl,hi,hj,∅,h⟩
end
section
variable {prog:Program}{w:World}{A:Around}{E:Value->Shared->Prop}{s:Shared}
theorem lt_tupInts {l b:Addr}{items items2:Array Value}{ns ms:List Int}{Q:Value->Shared->Prop}(hl:IsTup s.heap l items) (hb:IsTup s.heap b items2) (hi:IntsAre items.toList ns) (hj:IntsAre items2.toList ms)
  (hu:A.units < cLine) (h:Q (.bool (lexLt ns ms)) s):wpAny (model prog w) A (compareOp .Lt (.ref l) (.ref b)) Q E s:=by
 obtain ⟨⟨cls,dd,data,sl⟩,ho,hc,n,hd⟩:=id hl
 obtain ⟨⟨cls2,dd2,data2,sl2⟩,ho2,hc2,n2,hd2⟩:=id hb
 simp only at hc hd hc2 hd2
 subst hc hd hc2 hd2
 exact richCompare_meets_room (op:= .Lt) ⟨_,ho,rfl⟩ ⟨_,ho2,rfl⟩ PySem.F.slot_tuple_lt PySem.F.entry_tuple_lt (PySem.F.args_tuple_lt_2 _ _) (mU l b items items2 n n2 dd dd2 sl sl2 ns ms hi hj)
  ⟨ho,ho2,show Value.bool (lexLt ns ms)≠Value.notImplemented/\Q (.bool (lexLt ns ms)) s from ⟨(fun x=>nomatch x),h⟩⟩ hu
theorem cat_tup {t b:Addr}{vs ws:List Value}{Q:Value->Shared->Prop}(ht:IsTup s.heap t vs.toArray) (hb:IsTup s.heap b ws.toArray) (hv:vs≠[])
  (h1:ws=[]->Q (.ref t) s) (h2:ws≠[]->Q (.ref s.heap.objs.size) { s with heap:=s.heap.push { cls:= .type "tuple",data:= .seq (vs++ws).toArray } })
  (hsz:vs.length+ws.length<=sizeLine):wpAny (model prog w) A (binaryOp .Add (.ref t) (.ref b)) Q E s:=by
 obtain ⟨⟨cls,dd,data,sl⟩,ho,hc,n,hd⟩:=id ht
 obtain ⟨⟨cls2,dd2,data2,sl2⟩,ho2,hc2,n2,hd2⟩:=id hb
 simp only at hc hd hc2 hd2
 subst hc hd hc2 hd2
 have e:vs.toArray++ws.toArray=(vs++ws).toArray:=by simp
 by_cases hw:ws=[]
 ·exact concat_meets ⟨_,ho,rfl⟩ ⟨_,ho2,rfl⟩ noFill_tuple_add seq_tuple_add PySem.F.slot_tuple_add PySem.F.entry_tuple_add (PySem.F.args_tuple_add_2 _ _)
   (tuple_addW1 t b vs.toArray ws.toArray n n2 dd dd2 sl sl2 (by simpa using hv) (by simp [hw])) ⟨ho,ho2,h1 hw⟩
 ·refine concat_meets ⟨_,ho,rfl⟩ ⟨_,ho2,rfl⟩ noFill_tuple_add seq_tuple_add PySem.F.slot_tuple_add PySem.F.entry_tuple_add (PySem.F.args_tuple_add_2 _ _)
   (tuple_addW2 t b vs.toArray ws.toArray n n2 dd dd2 sl sl2 (by simpa using hv) (by simpa using hw) (by rw [List.size_toArray,List.size_toArray];exact hsz)) ⟨ho,ho2,?_⟩
  rw [e]
  exact h2 hw
def sIx (n d:Nat):Option Int->Nat
 |none=>d
 |some v=>if v < 0 then (v+(n:Int)).toNat else min v.toNat n
end
end HT
namespace L2
open PySem PySem.Spec PyProof.Rows
abbrev TO:=St->Hp->(Option Int->Hp->Prop)->Prop
def PO (X:Cx) (e:Option Expr) (t:TO):Prop :=
 ∀ (pins:List (Addr×Obj)) (s:Shared) (σ: St) (H:Hp) (Q:Option Int->Hp->Prop),aQ X pins σ H s->t σ H Q ->
  wpAny (model X.prog X.w) X.A (evalPart e X.env) (fun u s'=>∃ o H',aQ X pins σ H' s'/\IsPart u o/\Q o H') X.xe s
def cA3 (t:TE):TO:=fun σ H Q=>t σ H fun x H1=>∃ i,x= .int i/\Q (some i) H1
theorem kA {ns:List Int}:∀ {us:List Value},bB (ns.map V.int) us->IntsAre us ns:=by
 induction ns with
 |nil=>intro us r;rw [jf] at r;cases r;exact .nil
 |cons n ns ih =>
  intro us r
  rw [au] at r
  cases r with
  |cons r1 r2 =>
   obtain ⟨t,e⟩:=r1
   subst e
   exact .cons n t (ih r2)
section
variable {X:Cx}{e:Expr}{te:TE}{lo hi:Option Expr}{tl th:TO}{pos p2:Pos}
theorem aL3 (h:PE X e te):PO X (some e) (cA3 te):=by
 intro pins s σ H Q I hw
 rw [evalPart_some]
 refine cO (h pins s σ H _ I hw) ?_;rintro u s1 ⟨x,H1,I1,r1,q1⟩
 obtain ⟨i,rfl,q⟩:=q1
 obtain ⟨t,rfl⟩:=r1
 exact ⟨some i,H1,I1,.int i t,q⟩
def SlR (X:Cx) (r:V->Option Int->Option Int->Hp->VK->Prop):Prop :=
 ∀ (pins:List (Addr×Obj)) (s:Shared) (σ: St) (H:Hp) (x:V) (v vl vu:Value) (lo hi:Option Int) (sl:Addr) (Q:VK),aQ X pins σ H s->aX x v->s.heap.IsSliceOf sl vl vu .none->IsPart vl lo->IsPart vu hi->r x lo hi H Q ->
  ∃ T id,typeLookup (.type T) "__getitem__"=pure (some (.builtin id))/\s.TypeIs v T/\wpAny (model X.prog X.w) X.A (getItem v (.ref sl)) (EP X pins σ Q) X.xe s
def tSl (r:V->Option Int->Option Int->Hp->VK->Prop) (te:TE) (tl th:TO):TE:=fun σ H Q=>te σ H fun x H1=>tl σ H1 fun l H2=>th σ H2 fun u H3=>r x l u H3 Q
theorem bC8 {r:V->Option Int->Option Int->Hp->VK->Prop}(hr:SlR X r) (he:PE X e te) (hl:PO X lo tl) (hu:PO X hi th):PE X (.Subscript e (.Slice lo hi none p2) pos) (tSl r te tl th):=by
 intro pins s σ H Q I h
 refine Subscript_ (cO (he pins s σ H _ I h) ?_);rintro v s1 ⟨x,H1,I1,r1,q1⟩
 refine wpAny_Slice (cO (hl pins s1 σ H1 _ I1 q1) ?_);rintro vl s2 ⟨l,H2,I2,pl,q2⟩;refine cO (hu pins s2 σ H2 _ I2 q2) ?_;rintro vu s3 ⟨u,H3,I3,pu,q3⟩
 rw [evalPart_none]
 refine aj ?_
 have I4:aQ X pins σ H3 { s3 with heap:=s3.heap.push { cls:= .type "slice",data:= .fields #[vl,vu,.none] } }:=I3.kept (t':=s3.toks) fun b ob q=>af _ q
 obtain ⟨T,id,hT,ht,hg⟩:=hr pins { s3 with heap:=s3.heap.push { cls:= .type "slice",data:= .fields #[vl,vu,.none] } } σ H3 x v vl vu l u s3.heap.objs.size Q I4 r1 (Heap.IsSliceOf.new ..) pl pu q3
 show wpAny (model X.prog X.w) X.A (subscriptTail e (.Slice lo hi none p2) v (.ref s3.heap.objs.size)) (EP X pins σ Q) X.xe { s3 with heap:=s3.heap.push { cls:= .type "slice",data:= .fields #[vl,vu,.none] } }
 exact tail_any (ops:=[.ref s3.heap.objs.size,v]) ht hT hg (by with_unfolding_all rfl)
def xS (xs:List V) (lo hi:Option Int):List V:=(xs.drop (HT.sIx xs.length 0 lo)).take (HT.sIx xs.length xs.length hi - HT.sIx xs.length 0 lo)
theorem aC6 (xs:List V) (lo hi:Option Int):(xS xs lo hi).length<=xs.length:=by
 unfold xS
 rw [bx,List.length_drop]
 omega
def cF9 (K:PySem.W.Frag):R2:=fun x y H Q=>∃ a b ns ms,x= .ref a/\y= .ref b/\aT K H a (ns.map V.int)/\aT K H b (ms.map V.int)/\Q (.bl (HT.lexLt ns ms)) H
theorem bT5 (hu:X.A.units < cLine):jX X (compareOp .Lt) (cF9 X.K):=by
 intro pins s σ H x y v u Q I rx ry h
 obtain ⟨a,b,ns,ms,rfl,rfl,ha,hb,q⟩:=h
 cases rx
 cases ry
 obtain ⟨its,r1,p1,_⟩:=I.tuple ha
 obtain ⟨its2,r2,p2,_⟩:=I.tuple hb
 have i1:IntsAre its.toArray.toList ns:=kA r1
 have i2:IntsAre its2.toArray.toList ms:=kA r2
 exact HT.lt_tupInts p1 p2 i1 i2 hu ⟨.bl (HT.lexLt ns ms),H,I,rfl,q⟩
def cD9 (K:PySem.W.Frag):R2:=fun x y H Q=>∃ a b xs ys,x= .ref a/\y= .ref b/\aT K H a xs/\aT K H b ys/\xs≠[]/\xs.length+ys.length<=sizeLine /\
 (ys=[]->Q (.ref a) H)/\(ys≠[]->∀ p,H p=none->Q (.ref p) (aJ H p (.tup (xs++ys))))
theorem bB.nil_iff {xs:List V}{us:List Value}(r:bB xs us):us=[]↔xs=[]:=by
 cases r with
 |nil=>simp
 |cons _ _=>simp
theorem bH8:jX X (binaryOp .Add) (cD9 X.K):=by
 intro pins s σ H x y v u Q I rx ry h
 obtain ⟨a,b,xs,ys,rfl,rfl,ha,hb,hx,hz,q1,q2⟩:=h
 cases rx
 cases ry
 obtain ⟨its,r1,p1,_⟩:=I.tuple ha
 obtain ⟨its2,r2,p2,_⟩:=I.tuple hb
 refine HT.cat_tup p1 p2 (fun z=>hx (r1.nil_iff.mp z)) (fun z=>⟨.ref a,H,I,rfl,q1 (r2.nil_iff.mp z)⟩) (fun z=>?_) (by rw [<- r1.length, <- r2.length];exact hz)
 exists .ref s.heap.objs.size,_,I.laid (t':=s.toks) (o:= .tup (xs++ys)) (fun b ob q=>af _ q) (ao _) ?_,rfl,q2 (fun w=>z (r2.nil_iff.mpr w)) _ (I.hok.fresh (ao _))
 exact ⟨by rw [cq];exact hz,_,r1.append r2,nF.new _ _⟩
end
def ixN (n:Nat) (i:Int):Option Nat:=if 0<=i then (if i < n then some i.toNat else none) else if -(n:Int)<=i then some (i+n).toNat else none
def yJ {α: Type}(xs:List α) (i:Int):Option α:=(ixN xs.length i).bind fun j=>xs[j]?
theorem rS {n:Nat}{i:Int}{j:Nat}(h:ixN n i=some j):seqIndex? i n=some j/\j < n/\ -(n:Int)<=i/\i < n:=by
 unfold ixN at h
 by_cases h0:0<=i
 ·rw [bh h0] at h
  by_cases h1:i < n
  ·rw [bh h1] at h
   have e:i.toNat=j:=dm h
   exact ⟨by rw [aCa h0 h1,e],∅,∅,h1⟩
  ·rw [ap h1] at h;cases h
 ·rw [ap h0] at h
  by_cases h1: -(n:Int)<=i
  ·rw [bh h1] at h
   have e:(i+n).toNat=j:=dm h
   exact ⟨by rw [aBr ∅ h1,e],∅,h1,∅⟩
  ·rw [ap h1] at h;cases h
theorem aJ8 {α: Type}{xs:List α}{i:Int}{v:α}(h:yJ xs i=some v):∃ j,seqIndex? i xs.length=some j/\xs[j]?=some v/\j < xs.length/\ -(xs.length:Int)<=i/\i < xs.length:=by
 unfold yJ at h
 cases e:ixN xs.length i with
 |none=>rw [e] at h;cases h
 |some j =>
  rw [e] at h
  obtain ⟨h1,h2,h3,h4⟩:=rS e
  exact ⟨j,h1,h,h2,h3,h4⟩
theorem jB {α: Type}{xs:List α}{j:Nat}{v:α}(h:xs[j]?=some v):yJ xs (j:Int)=some v:=by
 have hj:j < xs.length:=(bw.mp h).1
 have e:ixN xs.length (j:Int)=some j:=by
  unfold ixN
  rw [bh ∅,bh ∅];simp
 unfold yJ;rw [e];exact h
theorem bA8 {α: Type}(xs:List α) (v:α):yJ (xs++[v]) (-1)=some v:=by
 have hl:(xs++[v]).length=xs.length+1:=by simp
 have e:ixN (xs++[v]).length (-1)=some xs.length:=by
  unfold ixN
  rw [hl,ap (by decide),bh ∅]
  congr 1
  omega
 unfold yJ
 rw [e]
 show (xs++[v])[xs.length]?=some v
 simp
def aM8 (b:Expr):Prop:=∀ o i,subscripted b false o i=operate [o,i] (getItem o i)
def IxR (X:Cx) (r:R2):Prop :=
 ∀ (value slice:Expr) (pins:List (Addr×Obj)) (s:Shared) (σ: St) (H:Hp) (x y:V) (v u:Value) (Q:VK),aQ X pins σ H s->aX x v->aX y u->r x y H Q ->
  subscripted slice false v u=operate [v,u] (getItem v u)->wpAny (model X.prog X.w) X.A (subscriptTail value slice v u) (EP X pins σ Q) X.xe s
def MtR (X:Cx) (id:String) (r:V->List V->Hp->VK->Prop):Prop :=
 ∀ (pins:List (Addr×Obj)) (s:Shared) (σ: St) (H:Hp) (x:V) (xs:List V) (v:Value) (us:List Value) (Q:VK),aQ X pins σ H s->aX x v->bB xs us->r x xs H Q ->
  wpAny (model X.prog X.w) X.A (call (.builtin id) (v :: us)) (EP X pins σ Q) X.xe s
section
variable {X:Cx}{a b:Expr}{ta tb:TE}{pos:Pos}
theorem cC4 {r:R2}(hr:IxR X r) (ha:PE X a ta) (hb:PE X b tb) (hs:aM8 b):PE X (.Subscript a b pos) (tOp r ta tb):=by
 intro pins s σ H Q I h
 exact Subscript_ (bR7 ha hb I h fun v u s2 x y H2 I2 rx ry q=>hr a b pins s2 σ H2 x y v u Q I2 rx ry q (hs _ _))
def cG1 (K:PySem.W.Frag):R2:=fun x y H Q=>∃ p xs i v,x= .ref p/\y= .int i/\bK K H p xs/\yJ xs i=some v/\Q v H
def cB3 (K:PySem.W.Frag):R2:=fun x y H Q=>∃ p xs i v,x= .ref p/\y= .int i/\aT K H p xs/\yJ xs i=some v/\Q v H
theorem dU:IxR X (cG1 X.K):=by
 intro value slice pins s σ H x y v u Q I rx ry h hs
 obtain ⟨p,xs,i,z,rfl,rfl,hq,he,q⟩:=h
 cases rx
 obtain ⟨t,rfl⟩:=ry
 obtain ⟨its,r,pl,hz⟩:=I.list hq
 obtain ⟨j,h1,h2,h3,h4,h5⟩:=aJ8 he
 obtain ⟨w,ew,rw'⟩:=r.get h2
 have hl:=r.length
 have hn:=yK
 have fin:EP X pins σ Q w s:=⟨z,H,I,rw',q⟩
 by_cases h0:0<=i
 ·have hj:i.toNat=j:=by
   rw [aCa h0 h5] at h1
   exact dm h1
  exact item_listR pl.isList h0 ∅ (by rw [hj];simpa using ew) fin hs
 ·have hj:(i+(its.toArray.size:Int)).toNat=j:=by
   rw [aBr ∅ h4] at h1
   rw [cv, <- hl]
   exact dm h1
  exact zt (x:=w) pl.isList.typeIs slot_list_getitem.lookup
   (wpAny_getItem_list_neg (Q:=fun r s'=>r=w/\EP X pins σ Q r s') pl.isList ∅ (by rw [cv] <;> omega) ∅ (by rw [hj];simpa using ew) ⟨rfl,fin⟩) hs
theorem aM:IxR X (cB3 X.K):=by
 intro value slice pins s σ H x y v u Q I rx ry h hs
 obtain ⟨p,xs,i,z,rfl,rfl,hq,he,q⟩:=h
 cases rx
 obtain ⟨t,rfl⟩:=ry
 obtain ⟨its,r,pl,hz⟩:=I.tuple hq
 obtain ⟨j,h1,h2,h3,h4,h5⟩:=aJ8 he
 obtain ⟨w,ew,rw'⟩:=r.get h2
 have hl:=r.length
 have hn:=yK
 have fin:EP X pins σ Q w s:=⟨z,H,I,rw',q⟩
 exact zt (x:=w) pl.typeIs slot_tuple_getitem.lookup
  (getItem_tuple (j:=j) (Q:=fun r s'=>r=w/\EP X pins σ Q r s') pl ∅ ∅ (by rw [cv, <- hl];exact h1) (by simpa using ew) ⟨rfl,fin⟩) hs
theorem aD4 (its:List Value) (n j:Nat) (u:Value):Obj.mapSeq (·.setIfInBounds j u) { cls:= .type "list",data:= .seq its.toArray n }={ cls:= .type "list",data:= .seq (its.set j u).toArray n }:=by
 simp [Obj.mapSeq]
theorem aQ.lst {pins:List (Addr×Obj)}{σ: St}{H:Hp}{s:Shared}{p:Addr}{xs:List V}(I:aQ X pins σ H s) (h:H p=some (.lst xs)) :
  ∃ (its:List Value) (n:Nat),bB xs its/\s.heap.get? p=some { cls:= .type "list",data:= .seq its.toArray n }/\xs.length<=sizeLine:=by
 obtain ⟨z,its,n,r,e⟩:=I.hok p _ h
 exact ⟨its,n,r,e,z⟩
theorem aQ.lstUpd {pins:List (Addr×Obj)}{σ: St}{H:Hp}{s:Shared}{p:Addr}{xs ys:List V}{its its':List Value}{n n':Nat}{f:Obj->Obj}(I:aQ X pins σ H s) (h:H p=some (.lst xs))
  (ho:s.heap.get? p=some { cls:= .type "list",data:= .seq its.toArray n }) (hf:f { cls:= .type "list",data:= .seq its.toArray n }={ cls:= .type "list",data:= .seq its'.toArray n' }) (r:bB ys its') (hz:ys.length<=sizeLine) (t:Nat) :
  aQ X pins σ (aJ H p (.lst ys)) { s with heap:=s.heap.update p f,toks:=t }:=by
 have e:(s.heap.update p f).get? p=some { cls:= .type "list",data:= .seq its'.toArray n' }:=by
  rw [kd f ho (by rw [hf] <;> rfl),hf]
 refine I.write (x:=p) (e:=p) (by rw [h];trivial) (.inl rfl) (fun b u hb q=>(uc _ _ (Ne.symm hb)).trans q) ⟨_,e⟩ ?_
 exact ⟨hz,its',n',r,e⟩
def rSetL:V->V->V->Hp->(Hp->Prop)->Prop:=fun o i v H Q=>∃ p xs k j,o= .ref p/\i= .int k/\H p=some (.lst xs)/\ixN xs.length k=some j/\Q (aJ H p (.lst (xs.set j v)))
theorem yQ:cB0 X rSetL:=by
 intro pins s σ H o i v ov iv u Q I ro ri rv h
 obtain ⟨p,xs,k,j,rfl,rfl,hp,hj,q⟩:=h
 cases ro
 obtain ⟨t,rfl⟩:=ri
 obtain ⟨its,n,r,ho,hz⟩:=I.lst hp
 obtain ⟨h1,h2,h3,h4⟩:=rS hj
 have hl:=r.length
 have hn:=yK
 have I':aQ X pins σ (aJ H p (.lst (xs.set j v))) { s with heap:=s.heap.update p (Obj.mapSeq (·.setIfInBounds j u)) } :=
  I.lstUpd hp ho (aD4 its n j u) (r.set rv j) (by rw [List.length_set];exact hz) s.toks
 by_cases h0:0<=k
 ·have hk:k.toNat=j:=by
   rw [aCa h0 h4] at h1
   exact dm h1
  exact PySem.W.ki_setAt ho h0 ∅ (by rw [cv, <- hl];exact h4) (by rw [hk];exact ⟨_,I',q⟩)
 ·have hk:(k+(its.toArray.size:Int)).toNat=j:=by
   rw [aBr ∅ h3] at h1
   rw [cv, <- hl]
   exact dm h1
  exact PySem.W.ki_setBack ho ∅ (by rw [cv, <- hl];exact h3) ∅ (by rw [hk];exact ⟨_,I',q⟩)
theorem xC (lo hi:Option Int) (n:Nat):(sliceBounds lo hi none n).1=((HT.sIx n 0 lo:Nat):Int)/\(sliceBounds lo hi none n).2.1=((HT.sIx n n hi:Nat):Int)/\(sliceBounds lo hi none n).2.2=1:=by
 exists ?_,?_,rfl
 ·cases lo with
  |none=>simp [sliceBounds,HT.sIx]
  |some i =>
   simp only [sliceBounds,HT.sIx,Option.getD_none,show (1:Int) > 0 by decide,if_true]
   by_cases h:i < 0
   ·simp only [h,if_true] <;> omega
   ·simp only [h,if_false] <;> omega
 ·cases hi with
  |none=>simp [sliceBounds,HT.sIx]
  |some i =>
   simp only [sliceBounds,HT.sIx,Option.getD_none,show (1:Int) > 0 by decide,if_true]
   by_cases h:i < 0
   ·simp only [h,if_true] <;> omega
   ·simp only [h,if_false] <;> omega
theorem vJ (its:List Value) (lo hi:Option Int):slicePick its.toArray lo hi none=((its.drop (HT.sIx its.length 0 lo)).take (HT.sIx its.length its.length hi - HT.sIx its.length 0 lo)).toArray:=by
 obtain ⟨h1,h2,h3⟩:=xC lo hi its.toArray.size
 unfold slicePick
 rw [h1,h2,h3]
 simp only [sliceRange_one,pick_run,List.size_toArray] <;> rfl
def cI9 (K:PySem.W.Frag):V->Option Int->Option Int->Hp->VK->Prop:=fun x lo hi H Q=>∃ a xs,x= .ref a/\bK K H a xs/\∀ p,H p=none->Q (.ref p) (aJ H p (.lst (xS xs lo hi)))
theorem bG4:SlR X (cI9 X.K):=by
 intro pins s σ H x v vl vu lo hi sl Q I rx hs pl pu h
 obtain ⟨a,xs,rfl,hx,q⟩:=h
 cases rx
 obtain ⟨its,r,ht,hz⟩:=I.list hx
 have hlen:=r.length
 exists "list",_,slot_list_getitem.lookup,ht.isList.typeIs,?_
 refine wpAny_getItem_list_slice ht.isList hs pl pu .none (by simp) ?_ (by rw [List.size_toArray] <;> omega)
 rw [vJ, <- hlen]
 exists .ref s.heap.objs.size,_,I.laid (t':=s.toks) (o:= .lst (xS xs lo hi)) (fun b ob q=>af _ q) (ao _) ?_,rfl,q _ (I.hok.fresh (ao _))
 exact ⟨cy (aC6 xs lo hi) hz,_,0,(r.drop (HT.sIx xs.length 0 lo)).take (HT.sIx xs.length xs.length hi - HT.sIx xs.length 0 lo),aq _ rfl⟩
theorem cD:dL X (.builtin "len") (fun xs H Q=>∃ p ys,xs=[.ref p]/\(bK X.K H p ys\/aT X.K H p ys)/\Q (.int ys.length) H):=by
 intro pins s σ H xs us Q I r h
 obtain ⟨p,ys,rfl,hq,q⟩:=h
 obtain ⟨u,rfl,rx⟩:=gT r
 cases rx
 have hn:=yK
 rcases hq with hq | hq
 ·obtain ⟨its,r',pl,hz⟩:=I.list hq
  have hlen:=r'.length
  exact Calls.call_len_list pl.isList (by simp only [List.size_toArray] <;> omega) ⟨.int ys.length,H,I.tok _,⟨s.toks+1,by rw [cv,hlen]⟩,q⟩
 ·obtain ⟨its,r',pl,hz⟩:=I.tuple hq
  have hlen:=r'.length
  exact len_tuple pl (by simp only [List.size_toArray] <;> omega) ⟨.int ys.length,H,I.tok _,⟨s.toks+1,by rw [cv,hlen]⟩,q⟩
theorem hZ:dL X (.type "list") (fun xs H Q=>∃ p ys,xs=[.ref p]/\(bK X.K H p ys\/aT X.K H p ys)/\∀ l,H l=none->Q (.ref l) (aJ H l (.lst ys))):=by
 intro pins s σ H xs us Q I r h
 obtain ⟨p,ys,rfl,hq,q⟩:=h
 obtain ⟨u,rfl,rx⟩:=gT r
 cases rx
 have fin:∀ (its:List Value),bB ys its->ys.length<=sizeLine->∀ (h':Heap) (c':Nat),(∀ b o',s.heap.get? b=some o'->h'.get? b=some o') ->
   h'.get? s.heap.objs.size=some { cls:= .type "list",dict:=none,data:= .seq its.toArray c',slots:= #[] }->EP X pins σ Q (.ref s.heap.objs.size) { s with heap:=h' }:=fun its r' hz h' c' kp e =>
  ⟨.ref s.heap.objs.size,_,I.laid (t':=s.toks) kp (ao _) (show bO X.prog X.w _ h' _ (.lst ys) from ⟨hz,its,c',r',e⟩),rfl,q _ (I.hok.fresh (ao _))⟩
 rcases hq with hq | hq
 ·obtain ⟨its,r',pl,hz⟩:=I.list hq
  have hlen:=r'.length
  obtain ⟨o,ho,hc,n,hd⟩:=pl.isList
  exact call_list_seq p (.inl rfl) ho hc hd (fun h' c' kp e=>fin its r' hz h' c' kp e) (by simp only [List.size_toArray] <;> omega)
 ·obtain ⟨its,r',pl,hz⟩:=I.tuple hq
  have hlen:=r'.length
  obtain ⟨o,ho,hc,n,hd⟩:=pl
  exact call_list_seq p (.inr rfl) ho hc hd (fun h' c' kp e=>fin its r' hz h' c' kp e) (by simp only [List.size_toArray] <;> omega)
theorem fK:dL X (.type "tuple") (fun xs H Q=>∃ p ys,xs=[.ref p]/\((bK X.K H p ys/\∀ l,H l=none->Q (.ref l) (aJ H l (.tup ys)))\/(aT X.K H p ys/\Q (.ref p) H))):=by
 intro pins s σ H xs us Q I r h
 obtain ⟨p,ys,rfl,h⟩:=h
 obtain ⟨u,rfl,rx⟩:=gT r
 cases rx
 rcases h with ⟨hq,q⟩ | ⟨hq,q⟩
 ·obtain ⟨its,r',pl,hz⟩:=I.list hq
  have hlen:=r'.length
  refine call_tuple_list pl.isList (fun h' kp=>?_) (by simp only [List.size_toArray] <;> omega)
  have I1:aQ X pins σ H { s with heap:=h' }:=I.kept (t':=s.toks) kp
  have I2:aQ X pins σ (aJ H h'.objs.size (.tup ys)) { s with heap:=h'.push { cls:= .type "tuple",data:= .seq its.toArray } } :=
   I1.laid (t':=s.toks) (fun b o e=>af _ e) (ao _) (show bO X.prog X.w _ _ _ (.tup ys) from ⟨hz,its,r',nF.new _ _⟩)
  exact ⟨.ref h'.objs.size,_,I2,rfl,q _ (I1.hok.fresh (ao _))⟩
 ·obtain ⟨its,r',pl,hz⟩:=I.tuple hq
  exact call_tuple_same pl ⟨.ref p,H,I,rfl,q⟩
def tyV (K:PySem.W.Frag) (T:String) (x:V) (H:Hp):Prop:=match x with
 |.str _=>T="str"
 |.int _=>T="int"
 |.ref p=>(T="list"/\∃ xs,bK K H p xs)\/(T="tuple"/\∃ o,K.lookup p=some o/\o.cls= .type "tuple"/\o.dict=none) \/
   (T="dict"/\((∃ kvs,H p=some (.dK kvs))\/∃ kvs,H p=some (.dT kvs)))\/(T="set"/\∃ S n,H p=some (.set S n))
 |_=>False
theorem bA4 {pins:List (Addr×Obj)}{σ: St}{H:Hp}{s:Shared}{T:String}{x:V}{v:Value}(I:aQ X pins σ H s) (r:aX x v) (ty:tyV X.K T x H) :
  s.TypeIs v T/\∀ a,v= .ref a->∃ ob,s.heap.get? a=some ob/\ob.dict=none:=by
 cases x with
 |str z =>
  obtain ⟨t,rfl⟩:=r
  cases (show T="str" from ty)
  exact ⟨typeIs_str s z t,fun _ e=>nomatch e⟩
 |int i =>
  obtain ⟨t,rfl⟩:=r
  cases (show T="int" from ty)
  exact ⟨typeIs_int s i t,fun _ e=>nomatch e⟩
 |ref p =>
  cases r
  rcases ty with ⟨rfl,xs,hq⟩ | ⟨rfl,o,hk,hc,hd⟩ | ⟨rfl,hk⟩ | ⟨rfl,S,n,hk⟩
  ·obtain ⟨its,_,pl,_⟩:=I.list hq
   exists pl.isList.typeIs,fun a e=>?_
   cases e
   obtain ⟨o,n,e,c,hd,_⟩:=pl
   exact ⟨o,e,hd⟩
  ·exists ⟨o,I.kIn p o hk,hc⟩,fun a e=>?_
   cases e
   exact ⟨o,I.kIn _ o hk,hd⟩
  ·have z:∃ o,s.heap.get? p=some o/\o.ExactDict:=by
    rcases hk with ⟨kvs,hk⟩ | ⟨kvs,hk⟩
    ·obtain ⟨_,_,_,_,o,_,_,e,ex,_⟩:=I.hok p _ hk
     exact ⟨o,e,ex⟩
    ·obtain ⟨_,_,_,_,o,_,_,e,ex,_⟩:=I.hok p _ hk
     exact ⟨o,e,ex⟩
   obtain ⟨o,e,ex⟩:=z
   exists ⟨o,e,ex.1⟩,fun a e2=>?_
   cases e2
   exact ⟨o,e,ex.2.1⟩
  ·obtain ⟨o,_,_,_,e,ex,_⟩:=I.hok p _ hk
   exists ⟨o,e,ex.1⟩,fun a e2=>?_
   cases e2
   exact ⟨o,e,ex.2.1⟩
 |_=>exact False.elim ty
def cJ7 (K:PySem.W.Frag) (T:String) (r:V->List V->Hp->VK->Prop) (to:TE):TE:=fun σ H Q=>to σ H fun x H1=>tyV K T x H1/\r x [] H1 Q
def tBM (K:PySem.W.Frag) (T:String) (r:V->List V->Hp->VK->Prop) (to:TE) (t:TA):TE:=fun σ H Q=>to σ H fun x H1=>tyV K T x H1/\t σ H1 fun xs H2=>r x xs H2 Q
variable {o e:Expr}{es:List Expr}{to:TE}{t:TA}{name:Str}{apos cpos:Pos}{T id:String}{r:V->List V->Hp->VK->Prop}
theorem bT1 (pa:PlainAttrs T) (slot:Slot T name id) (hty:typeOf (.builtin id)=pure (.type "method_descriptor")) (hm:MtR X id r) (ho:PE X o to)
  (hbase:autoParam (attributeBase o name X.env (eval o X.env)=eval o X.env) Rq0._auto_1) (hline:autoParam ((apos.endLine == cpos.line)=true) Rq0._auto_1):PE X (.Call (.Attribute o name apos) [] [] cpos) (cJ7 X.K T r to):=by
 intro pins s σ H Q I h
 refine pq hbase hline (cO (ho pins s σ H _ I h) ?_);rintro v s1 ⟨x,H1,I1,r1,ty,q1⟩
 obtain ⟨h1,h2⟩:=bA4 I1 r1 ty
 exact ⟨T,id,pa,slot,hty,h1,h2,ja rfl (rc (hm pins s1 σ H1 x [] v [] Q I1 r1 .nil q1))⟩
theorem qL (pa:PlainAttrs T) (slot:Slot T name id) (hty:typeOf (.builtin id)=pure (.type "method_descriptor")) (hm:MtR X id r) (ho:PE X o to) (ha:PA X (e :: es) t)
  (hbase:autoParam (attributeBase o name X.env (eval o X.env)=eval o X.env) Rq0._auto_1)
  (hfew:autoParam (((backTo cpos (starEach (e :: es) X.env)).all (fun x=> !x.1) && (backToKw cpos (keywordEach [] X.env)).all (fun x=>x.1.isSome)
   && decide ((e :: es).length+([]:List Keyword).length+(if ([]:List Keyword).isEmpty then 0 else 1) < 30))=true) Rq0._auto_1)
  (hline:autoParam ((apos.endLine == cpos.line)=true) Rq0._auto_1) (hs:autoParam (starEach (e :: es) X.env=(false,eval e X.env) :: starEach es X.env) Rq0._auto_1) (hplain:autoParam ((backTo cpos (starEach es X.env)).any (·.1)=false) Rq0._auto_1) :
  PE X (.Call (.Attribute o name apos) (e :: es) [] cpos) (tBM X.K T r to t):=by
 intro pins s σ H Q I h
 refine wpAny_Call_method_late hbase hfew hline rfl (cO (ho pins s σ H _ I h) ?_);rintro v s1 ⟨x,H1,I1,r1,ty,q1⟩
 obtain ⟨h1,h2⟩:=bA4 I1 r1 ty
 exists T,id,pa,slot,hty,h1,h2,?_
 have hA:=ha cpos pins s1 σ H1 _ I1 q1
 rw [hs] at hA ⊢
 refine ja (by show (false || (backTo cpos (starEach es X.env)).any (·.1))=false;rw [hplain] <;> rfl) (ve ?_)
 refine cO hA ?_;rintro us s2 ⟨vs,H2,I2,r2,q2⟩;exact hm pins s2 σ H2 x vs v us Q I2 r1 r2 q2
end
def MtM (X:Cx) (id:String) (r:V->List V->Hp->VK->Prop):Prop :=
 ∀ (pins:List (Addr×Obj)) (s:Shared) (σ: St) (H:Hp) (x:V) (xs:List V) (v:Value) (us:List Value) (Q:VK),aQ X pins σ H s->aX x v->bB xs us->r x xs H Q ->
  wpAny (model X.prog X.w) X.A (call (.builtin id) (v :: us)) (EP X pins σ Q) X.xe s
theorem bB.one {x:V}{us:List Value}(h:bB [x] us):∃ u,us=[u]/\aX x u:=by
 cases h with
 |cons r t=>
  cases t
  exact ⟨_,rfl,r⟩
theorem bB.zero:∀ {us:List Value},bB [] us->us=[]
 |_,.nil=>rfl
theorem bB.dropLast {xs:List V}{us:List Value}(h:bB xs us):bB xs.dropLast us.dropLast:=by
 induction h with
 |nil=>exact .nil
 |cons r t ih =>
  cases t with
  |nil=>exact .nil
  |cons q t'=>exact .cons r ih
theorem bB.eraseIdx:∀ {xs:List V}{us:List Value}(i:Nat),bB xs us->bB (xs.eraseIdx i) (us.eraseIdx i)
 |_,_,_,.nil=> .nil
 |_,_,0,.cons _ t=>t
 |_,_,i+1,.cons r t=> .cons r (bB.eraseIdx i t)
theorem bB.reverse {xs:List V}{us:List Value}(h:bB xs us):bB xs.reverse us.reverse:=by
 induction h with
 |nil=>exact .nil
 |cons r t ih=>rw [List.reverse_cons,List.reverse_cons];exact bB.append ih (.cons r .nil)
theorem aF3 {α: Type}(l:List α):l.eraseIdx (l.length - 1)=l.dropLast:=by
 induction l with
 |nil=>rfl
 |cons a r ih =>
  cases r with
  |nil=>rfl
  |cons b r =>
   have e:(a :: b :: r).length - 1=((b :: r).length - 1)+1:=by
    rfl
   rw [e,tf,ih]
   all_goals rfl
theorem wV {α: Type}:∀ (l:List α) (i:Nat),(l.eraseIdx i).length<=l.length
 |[],_=>ao _
 |_ :: _,0=>zf _
 |_ :: r,i+1=>Nat.succ_le_succ (wV r i)
section
variable {X:Cx}{pins:List (Addr×Obj)}{σ: St}{H:Hp}{s:Shared}{l b:Addr}{xs ys zs:List V}
theorem aQ.lset {its its':List Value}{n:Nat}{f:Array Value->Array Value}{t':Nat}(I:aQ X pins σ H s) (hH:H l=some (.lst xs))
  (e:s.heap.get? l=some { cls:= .type "list",data:= .seq its.toArray n }) (hf:f its.toArray=its'.toArray) (hv:bB ys its') (hz:ys.length<=sizeLine) :
  aQ X pins σ (aJ H l (.lst ys)) { s with heap:=s.heap.update l (Obj.mapSeq f),toks:=t' }:=by
 have q:=PySem.IsL.update e f
 rw [hf] at q
 refine I.write (x:=l) (e:=l) (by rw [hH];exact trivial) (.inl rfl) (fun b' u hb hu=>(uc s.heap (Obj.mapSeq f) (Ne.symm hb)).trans hu) ⟨_,q⟩ ?_
 exact ⟨hz,its',_,hv,q⟩
theorem aQ.lnew {its:List Value}{t':Nat}(I:aQ X pins σ H s) (hv:bB ys its) (hz:ys.length<=sizeLine) :
  aQ X pins σ (aJ H s.heap.objs.size (.lst ys)) { s with heap:=s.heap.push { cls:= .type "list",data:= .seq its.toArray },toks:=t' } :=
 I.laid (fun _ _ q=>af _ q) (ao _) ⟨hz,its,0,hv,aq _ rfl⟩
theorem aQ.fresh (I:aQ X pins σ H s):H s.heap.objs.size=none:=I.hok.fresh (ao _)
theorem aQ.lstM (I:aQ X pins σ H s) (hH:H l=some (.lst xs)):xs.length<=sizeLine/\∃ (its:List Value) (n:Nat),bB xs its/\xs.length=its.length/\s.heap.get? l=some { cls:= .type "list",data:= .seq its.toArray n }:=by
 obtain ⟨z,its,n,r,e⟩:=I.hok l _ hH
 exact ⟨z,its,n,r,r.length,e⟩
end
section
variable {X:Cx}
def rAppend:V->List V->Hp->VK->Prop:=fun x vs H Q=>∃ l xs y,x= .ref l/\vs=[y]/\H l=some (.lst xs)/\xs.length < sizeLine/\Q .non (aJ H l (.lst (xs++[y])))
theorem iG:MtM X "list.append" rAppend:=by
 intro pins s σ H x vs v us Q I rx rv h
 obtain ⟨l,xs,y,rfl,rfl,hH,hz,q⟩:=h
 cases rx
 obtain ⟨u,rfl,ru⟩:=rv.one
 obtain ⟨z,its,n,r,hl,e⟩:=I.lstM hH
 refine vf F.slot_list_append ⟨_,e,rfl⟩ F.entry_list_append (F.args_list_append_2 _ _) (PySem.list_append l its.toArray n u (by rw [cv];omega)) ⟨e,?_⟩
 exists .non,_,I.lset (its':=its++[u]) hH e (by simp) (r.append (.cons ru .nil)) ?_,rfl,q
 rw [cq,List.length_singleton]
 omega
def rPop:V->List V->Hp->VK->Prop:=fun x vs H Q=>∃ l xs y,x= .ref l/\vs=[]/\H l=some (.lst xs)/\xs[xs.length - 1]?=some y/\Q y (aJ H l (.lst xs.dropLast))
theorem bQ0:MtM X "list.pop" rPop:=by
 intro pins s σ H x vs v us Q I rx rv h
 obtain ⟨l,xs,y,rfl,rfl,hH,hy,q⟩:=h
 cases rx
 have hus:=rv.zero
 subst hus
 obtain ⟨z,its,n,r,hl,e⟩:=I.lstM hH
 obtain ⟨u,hu,ru⟩:=r.get hy
 have hy':its.toArray[its.toArray.size - 1]?=some u:=by
  show its.toArray[its.length - 1]?=some u
  rw [<- gu, <- hl]
  exact hu
 refine vf F.slot_list_pop ⟨_,e,rfl⟩ F.entry_list_pop (F.args_list_pop_1 _) (MeetsSeq.list_pop_last l its.toArray n u hy' (by rw [cv];omega)) ⟨e,?_⟩
 exists y,_,I.lset (its':=its.dropLast) hH e ?_ r.dropLast ?_,ru,q
 ·show its.toArray.eraseIdxIfInBounds (its.toArray.size - 1)=its.dropLast.toArray
  rw [cv,uy,aF3]
 ·rw [aAr]
  omega
def rPopAt:V->List V->Hp->VK->Prop:=fun x vs H Q=>∃ l xs i k y,x= .ref l/\vs=[.int i]/\H l=some (.lst xs)/\ -(2 ^ 63)<=i/\i < 2 ^ 63/\seqIndex? i xs.length=some k/\xs[k]?=some y/\Q y (aJ H l (.lst (xs.eraseIdx k)))
theorem zA:MtM X "list.pop" rPopAt:=by
 intro pins s σ H x vs v us Q I rx rv h
 obtain ⟨l,xs,i,k,y,rfl,rfl,hH,h1,h2,hk,hy,q⟩:=h
 cases rx
 obtain ⟨u,rfl,ru⟩:=rv.one
 obtain ⟨t,rfl⟩:=ru
 obtain ⟨z,its,n,r,hl,e⟩:=I.lstM hH
 obtain ⟨w,hw,rw'⟩:=r.get hy
 refine vf F.slot_list_pop ⟨_,e,rfl⟩ F.entry_list_pop (F.args_list_pop_2 _ _)
  (MeetsSeq.list_pop_at l its.toArray n i t k w (fitsIndex_both h1 h2) (by rw [cv, <- hl];exact hk) (by rw [<- gu];exact hw) (by rw [cv];omega)) ⟨e,?_⟩
 exists y,_,I.lset (its':=its.eraseIdx k) hH e ?_ (r.eraseIdx k) ?_,rw',q
 ·show its.toArray.eraseIdxIfInBounds k=(its.eraseIdx k).toArray
  rw [uy]
 ·have:=wV xs k
  omega
def rCat:R2:=fun x y H Q=>∃ l b xs zs,x= .ref l/\y= .ref b/\H l=some (.lst xs)/\H b=some (.lst zs)/\xs.length+zs.length<=sizeLine/\∀ p,H p=none->Q (.ref p) (aJ H p (.lst (xs++zs)))
theorem xG:jX X (binaryOp .Add) rCat:=by
 intro pins s σ H x y v u Q I rx ry h
 obtain ⟨l,b,xs,zs,rfl,rfl,hH,hB,hz,q⟩:=h
 cases rx
 cases ry
 obtain ⟨z,its,n,r,hl,e⟩:=I.lstM hH
 obtain ⟨z2,its2,n2,r2,hl2,e2⟩:=I.lstM hB
 refine PySem.P.add_list e e2 ?_ (by rw [cv,cv];omega)
 have ea:its.toArray++its2.toArray=(its++its2).toArray:=by simp
 rw [ea]
 exact ⟨.ref _,_,I.lnew (t':=s.toks) (r.append r2) (by rw [cq];omega),rfl,q _ I.fresh⟩
end
section
variable {prog:Program}{w:World}{A:Around}{E:Value->Shared->Prop}{s:Shared}
end
section
variable {X:Cx}
end
end L2
namespace Att
open PySem PySem.W PySem.Calls PyProof.Rows
theorem qW {P:Params}{h:Heap}:∀ (ns:List Int) (vs:List Value),WellAll P h vs (ns.map WData.int)->IntsAre vs ns:=by
 intro ns
 induction ns with
 |nil =>
  intro vs w
  rw [List.map_nil] at w
  cases w
  exact .nil
 |cons n ns ih =>
  intro vs w
  rw [List.map_cons] at w
  cases w with
  |cons a b =>
   cases a
   exact .cons _ _ (ih _ b)
theorem aO6 {l:OpenLaw}{n:Nat}(hn:l.most=some n) {P:Params}{h:Heap}{args:List WData}{vals:List Value}
  (hpre:l.row.toRowW.claim.pre args=true) (hwl:WellAll P h vals args) :
  ∃ a vs ns,vals=[Value.ref a]/\args=[WData.list (ns.map WData.int)]/\h.get? a=some { cls:= .type "list",data:= .seq vs.toArray }/\IntsAre vs ns/\ns.length<=n:=by
 have hsh:WShape.hasAll [] args [.list .int]=true:=(pre_splitW hpre).1
 have hc:l.pre.holds [] { args:=args }=true:=(pre_splitW hpre).2
 obtain ⟨d,r,rfl,h1,h2⟩:=hasAllW_cons hsh
 obtain rfl:=hasAllW_nil h2
 obtain ⟨xs,rfl,h3⟩:=hasW_list h1
 obtain ⟨ns,rfl⟩:=items_int h3
 have hlen:ns.length<=n:=by
  unfold OpenLaw.pre at hc
  have h4:(WTm.not (.lt (.lit (.int (n:Int))) (.len (.arg 0)))).holds [] { args:=[.list (ns.map .int)] }=true:=by
   have h4:=(holds_andW hc).1
   rw [hn] at h4
   exact h4
  have h5:=condW_of h4 (w_not (w_lt w_lit (w_len_list (w_arg rfl))))
  rw [List.length_map] at h5
  refine Nat.le_of_not_lt fun q=>?_
  have q':(n:Int) < ((ns.length:Nat):Int):=∅
  first
   |(rw [decide_eq_true q'] at h5;exact absurd h5 (by decide))
   |(simp at h5;omega)
 cases hwl with
 |cons w1 w2 =>
  cases w2
  cases w1 with
  |list ho hall=>exact ⟨_,_,ns,rfl,rfl,ho,qW ns _ hall,hlen⟩
theorem aO0 (l:OpenLaw) (args:List WData):l.row.toRowW.claim.post args (.bool true) args=true :=
 postW_of (r:=l.row.toRowW) (X:=(true == true))
  (show WShape.has [] (.bool true) .bool=true by first | rfl | decide | simp [WShape.has,WShape.arms,WShape.armsAll])
  (show (WTm.eq .res (.lit (.bool true))).value [] { args:=args,res:=some (.bool true),after:=args }=some (.bool (true == true)) from w_eq_bool (w_res rfl) w_lit) rfl
theorem attach_call {l:OpenLaw}{n:Nat}{q:Program}{loose:List Str}{XP:(Str->Option Value)->Heap->Prop}{YP:World->Heap->Prop}{d:DefRec}
  (hn:l.most=some n) (hdf:d.params.defaults=[])
  (call:∀ (w:World) (s₀ s₁:Shared) (mg mb:Str->Option Value) (fa:Addr) (o:Obj) (pm cd doc:Value) (a:Addr) (vs:List Value) (ns:List Int),
   Ground q loose [] XP w s₀ mg mb s₁.heap->YP w s₁.heap ->
   s₁.heap.get? fa=some o->o.data= .func (docDef d.name d.params d.body d.scope pm cd doc)->s₁.heap.CodeRec cd d.name->mg d.name=some (.ref fa) ->
   s₁.heap.get? a=some { cls:= .type "list",data:= .seq vs.toArray }->IntsAre vs ns->ns.length<=n->s₁.gens= #[] ->
   codeAny (model l.prog w) callerA (.call (.ref fa) ⟨[.ref a],[]⟩) (fun r s'=>r= .ok (.ret (.bool true))/\OldK s₁.heap s'.heap/\s'.os=s₁.os/\AllBare s'.gens) s₁) :
  WalkO q loose XP YP l.row.toRowW d [] (fun f vs=>PySem.call f vs):=by
 intro w s₀ s₁ mg mb G Y fa o pm cd doc dV kV ho hd hcd hD hmg hg args vals as hpre hlay hrd hwl hlo
 obtain rfl:dV= .none:=Dflts.none hD hdf
 obtain rfl:kV= .none:=Dflts.noKw hD
 obtain ⟨a,vs,ns,rfl,rfl,hobj,hints,hlen⟩:=aO6 hn hpre hwl
 refine enter_call (codeAny_mono (call w s₀ s₁ mg mb fa o pm cd doc a vs ns G Y ho (fd_plain hd) hcd hmg hobj hints hlen hg) fun r s' hq=>?_)
 obtain ⟨rfl,h2,h3,h4⟩:=hq
 exact ⟨.inl ⟨.bool true,.bool true,[],rfl,fun _=>rfl,.bool true,aO0 l _,fun _=>⟨List.Pairwise.nil,fun _ hm=>(nomatch hm)⟩⟩,h2,h3,h4⟩
section
variable {prog:Program}{w:World}{A:Around}{E:Value->Shared->Prop}{s:Shared}{K:Frag}
def cJ5 (h:Heap) (L d:Addr):List (Addr×Obj):=(List.range h.objs.size).filterMap fun a=>if a=L\/a=d then none else (h.get? a).map fun o=>(a,o)
end
end Att
namespace L2
open PySem PySem.Spec PyProof.Rows
theorem wF:∀ {vs:List Value}{ns:List Int},IntsAre vs ns->bB (ns.map V.int) vs
 |_,_,.nil=> .nil
 |_,_,.cons n t h=> .cons ⟨t,rfl⟩ (wF h)
def bU3 (H:Hp):Prop:=∀ b,H b=none\/∃ o xs,H b=some (.frz o (.lst xs))
theorem aV4 {P:Program}{w:World}{K:PySem.W.Frag}{mg mb:Str->Option Value}{CX:CXT}{k:Nat}{fa a:Addr}{fd:FuncData}{x:Str}{sp:Sp}{s₁:Shared}{vs:List Value}{ns:List Int}
  (KX:K.In s₁.heap) (hns:s₁.heap.Ns mainGlobals mg) (hb:s₁.heap.Ns builtinsNs mb) (hbb:∀ x:Str,x≠"__name__"->mb x=bootBuiltins x) (hlim:s₁.heap.NoLimit) (hg:s₁.gens= #[])
  (ha:s₁.heap.get? a=some { cls:= .type "list",data:= .seq vs.toArray }) (hi:IntsAre vs ns) (hl:ns.length<=sizeLine) (hr:bU k callerA)
  (F:∀ base:Heap,K.In base->base.Ns mainGlobals mg->nK P w K mg base CX k fa fd [x] sp) (hbind:∀ (s:Shared) (u:Value),BindsTo s fd ⟨[u],[]⟩ [(x,u)])
  (hsp:∀ H:Hp,bU3 H->bK K H a (ns.map V.int)->sp [.ref a] H (fun v _=>v= .bl true) fun _ _ _=>False)
  (hCX:∀ H e s',CX [] H s₁ (fun _ _ _=>False) e s'->False) :
  codeAny (model P w) callerA (.call (.ref fa) ⟨[.ref a],[]⟩) (fun r s'=>r= .ok (.ret (.bool true))/\OldK s₁.heap s'.heap/\s'.os=s₁.os/\AllBare s'.gens) s₁:=by
 have rv:=wF hi
 have lenV:=hi.length
 have core:∀ H:Hp,bU3 H->bK K H a (ns.map V.int)->lX P w H s₁.heap->(∀ b,H b≠none->b=a)->(H a≠none->K.lookup a=none) ->
   codeAny (model P w) callerA (.call (.ref fa) ⟨[.ref a],[]⟩) (fun r s'=>r= .ok (.ret (.bool true))/\OldK s₁.heap s'.heap/\s'.os=s₁.os/\AllBare s'.gens) s₁:=by
  intro H hO hS hok hA hK
  have base_of:∀ {b:Addr}{o:Obj},s₁.heap.get? b=some o->H b=none->(xX s₁.heap H).get? b=some o:=fun e n=>bB1 e n
  have noA:∀ {b:Addr}{o:Obj}{es:Array DictEntry}{ep:Nat},s₁.heap.get? b=some o->o.data= .dict es ep->H b=none:=fun {b o es ep} e d=>by
   cases q:H b with
   |none=>rfl
   |some u =>
    have e':b=a:=hA b (by rw [q];simp)
    subst e'
    rw [ha] at e;cases e
    have d':Data.seq vs.toArray _=Data.dict es ep:=d
    cases d'
  have nsK:∀ {b:Addr}{m:Str->Option Value},s₁.heap.Ns b m->(xX s₁.heap H).Ns b m:=fun {b m} ⟨o,es,ep,e,d,r⟩=>⟨o,es,ep,base_of e (noA e d),d,r⟩
  have hKb:K.In (xX s₁.heap H):=fun b o e=>base_of (KX b o e) (by
   cases q:H b with
   |none=>rfl
   |some u =>
    have e':b=a:=hA b (by rw [q];simp)
    subst e'
    rw [hK (by rw [q];simp)] at e;cases e)
  have hM:Mod K mg (xX s₁.heap H):=⟨hKb,nsK hns,⟨mb,nsK hb,hbb⟩,let ⟨mc,h1,h2⟩:=hlim;⟨mc,nsK h1,h2⟩⟩
  have e0:aE5 P w K mg (xX s₁.heap H) callerA [] s₁ H:=⟨rfl,hM,fun b o e=>bJ3 e,aBk (aS5 _ _),trivial,fun b hb=>absurd (show b∈([]:List Addr) from hb) (by simp),hok,.of_eq hg⟩
  refine yc ((F _ hKb (nsK hns)).run callerA [] s₁ H ⟨[.ref a],[]⟩ [.ref a] [.ref a] _ _ hr e0 (hbind s₁ (.ref a)) (.cons rfl .nil) (hsp H hO hS)) fun r s' h=>?_
  cases r with
  |error e=>exact (hCX H e s' h).elim
  |ok fl =>
   cases fl with
   |next=>exact False.elim h
   |brk=>exact False.elim h
   |cont=>exact False.elim h
   |ret u =>
    obtain ⟨v,H',os,bare,un,hok',r',q⟩:=h
    have q':v= .bl true:=q
    subst q'
    obtain rfl:u=Value.bool true:=r'
    exists rfl,OldK.of_keep fun b o e=>?_,os,bare
    cases q:H b with
    |none=>exact un.keep b o e q (by intro z;exact absurd (show b∈([]:List Addr) from z) (by simp)) (by simp)
    |some u =>
     rcases hO b with z | ⟨ob,xs,z⟩
     ·rw [q] at z;cases z
     ·have z2:=un.frzs b ob _ z
      obtain ⟨e1,_⟩:=hok b _ z
      obtain ⟨e2,_⟩:=hok' b _ z2
      rw [e] at e1;cases e1
      exact e2
 cases hk:K.lookup a with
 |some o =>
  have e:=KX a o hk
  rw [ha] at e
  cases e
  refine core (fun _=>none) (fun _=> .inl rfl) (.inr ⟨_,vs.toArray,_,hk,rfl,rfl,rfl,by rw [cv,lenV];exact hl,by simpa using rv⟩) (fun b u z=>by have z':(none:Option HO)=some u:=z;cases z') (fun b z=>absurd rfl z) fun z=>absurd rfl z
 |none =>
  refine core (fun b=>if b=a then some (.frz { cls:= .type "list",data:= .seq vs.toArray } (.lst (ns.map V.int))) else none) (fun b=>?_) (.inl (.inr ⟨{ cls:= .type "list",data:= .seq vs.toArray },bh rfl⟩)) (fun b u z=>?_) (fun b z=>?_) fun _=>hk
  ·by_cases hb:b=a
   ·exact .inr ⟨_,_,bh hb⟩
   ·exact .inl (ap hb)
  ·by_cases hb:b=a
   ·have z':=(bh hb).symm.trans z
    cases z'
    subst hb
    exact ⟨ha,by rw [ae];exact hl,vs,_,rv,ha⟩
   ·have z':=(ap hb).symm.trans z
    cases z'
  ·by_cases hb:b=a
   ·exact hb
   ·exact absurd (ap hb) z
theorem walk_of {l:PySem.W.OpenLaw}{n k:Nat}{q:Program}{loose:List Str}{XP:(Str->Option Value)->Heap->Prop}{YP:World->Heap->Prop}{d:DefRec}{K:Params->PySem.W.Frag}{CX:World->CXT}{sp:World->Sp}{x:Str}
  (hn:l.most=some n) (hn2:n<=sizeLine) (hdf:d.params.defaults=[]) (hr:bU k callerA)
  (hY:∀ (w:World) (h:Heap),YP w h->(K w.params).In h)
  (F:∀ (w:World) (mg:Str->Option Value) (fa:Addr) (h:Heap),(K w.params).In h->h.Ns mainGlobals mg->mg d.name=some (.ref fa) ->
   ∃ fd:FuncData,(∀ (s:Shared) (u:Value),BindsTo s fd ⟨[u],[]⟩ [(x,u)]) /\
    ∀ base:Heap,(K w.params).In base->base.Ns mainGlobals mg->nK l.prog w (K w.params) mg base (CX w) k fa fd [x] (sp w))
  (hsp:∀ (w:World) (H:Hp) (a:Addr) (ns:List Int),ns.length<=n->bU3 H->bK (K w.params) H a (ns.map V.int)->sp w [.ref a] H (fun v _=>v= .bl true) fun _ _ _=>False)
  (hCX:∀ (w:World) (H:Hp) (s:Shared) (e:Value) (s':Shared),CX w [] H s (fun _ _ _=>False) e s'->False) :
  PySem.W.WalkO q loose XP YP l.row.toRowW d [] (fun f vs=>PySem.call f vs):=by
 refine Att.attach_call hn hdf fun w s₀ s₁ mg mb fa o pm cd doc a vs ns G Y ho hd hcd hmg hobj hints hlen hg=>?_
 have KX:=hY w _ Y
 obtain ⟨fd,hb,hF⟩:=F w mg fa _ KX G.T.g hmg
 exact aV4 KX G.T.g G.T.b G.T.builtins G.T.nolimit hg hobj hints (cy hlen hn2) hr hF hb (fun H hO hS=>hsp w H a ns hlen hO hS) fun H e s'=>hCX w H s₁ e s'
def cS (s:Stmt):Arguments:=match s with
 |.FunctionDef _ a _ _ _ _ _ _ _ _=>a
 |_=>{ posonlyargs:=[],args:=[],vararg:=none,kwonlyargs:=[],kw_defaults:=[],kwarg:=none,defaults:=[] }
def cG (s:Stmt):List Stmt:=match s with
 |.FunctionDef _ _ b _ _ _ _ _ _ _=>b
 |_=>[]
def bA (s:Stmt):Scope:=match s with
 |.FunctionDef _ _ _ _ _ _ sc _ _ _=>sc
 |_=>{ kind:= .function,names:=[],isGenerator:=false,isCoroutine:=false }
abbrev CX0:CXT:=fun _ _ _ _ _ _=>False
abbrev E0:XK:=fun _ _ _=>False
theorem bN3 {X:Cx}:uA CX0 X E0:=fun _ _ _ _ _ _ _ h=>h.elim
structure vD (K:PySem.W.Frag) (x qual:Str) (st:Stmt) (f:Addr) (fd:FuncData):Prop where
 ex:∃ (oc:Value) (od:Option Addr) (kV doc pm:Value) (an:Option Addr) (cdv ct:Value) (osl:Array (Option Value)),
  fd=PySem.W.fnOf x qual (cS st) (cG st) (bA st) .none kV doc pm an cdv ct/\K.lookup f=some ⟨oc,od,.func fd,osl⟩/\PySem.W.codeIn K cdv qual=true
 kp:PySem.W.keepIn K (.ref f)=true
section
variable {P:Program}{w:World}{K:PySem.W.Frag}{mg:Str->Option Value}{base:Heap}
theorem vD.ok {x qual:Str}{st:Stmt}{f:Addr}{fd:FuncData}{N ps:List Str}{k:Nat}{sp:Sp}(F:vD K x qual st f fd) (S:mK N ps (bA st)) (len:∀ vs H Q E,sp vs H Q E->vs.length=ps.length)
  (hbody:∀ (cdv:Value) (A:Around) (outer:List Env) (s:Shared) (H:Hp) (vs:List V) (Q:VK) (E:XK),bU k (A.deeper (envOfC qual (bA st) s.heap.objs.size f cdv))->sp vs H Q E ->
   ∃ t,PSs (aH7 CX0 P w K mg base N qual (bA st) f cdv A outer s H E).nox (cG st) t/\t { nx:=fun _ H'=>Q .non H',rt:=Q } (oF N vs) H):nK P w K mg base CX0 (k+1) f fd ps sp:=by
 obtain ⟨oc,od,kV,doc,pm,an,cdv,ct,osl,rfl,lk,hcd⟩:=F.ex
 refine cF2 lk hcd S len fun A outer s H vs Q E hr hsp=>?_
 obtain ⟨t,h,q⟩:=hbody cdv A outer s H vs Q E hr hsp
 exact ⟨t,h.nox,q⟩
theorem vD.binds {x qual:Str}{st:Stmt}{f:Addr}{fd:FuncData}{ps:List Str}(F:vD K x qual st f fd)
  (h:∀ (kV doc pm:Value) (an:Option Addr) (cdv ct:Value) (us:List Value),us.length=ps.length->bindArgs (PySem.W.fnOf x qual (cS st) (cG st) (bA st) .none kV doc pm an cdv ct) ⟨us,[]⟩=pure (ps.zip us)):hV K fd ps []:=by
 obtain ⟨oc,od,kV,doc,pm,an,cdv,ct,osl,rfl,lk,hcd⟩:=F.ex
 exact .all (h kV doc pm an cdv ct)
theorem aX3 {x qual:Str}{st:Stmt}{f:Addr}{oc:Value}{od an:Option Addr}{osl:Array (Option Value)}{kV doc pm cdv ct:Value}(l:K.lookup f=some ⟨oc,od,.func (PySem.W.fnOf x qual (cS st) (cG st) (bA st) .none kV doc pm an cdv ct),osl⟩)
  (c:PySem.W.codeIn K cdv qual=true) (k:PySem.W.keepIn K (.ref f)=true):vD K x qual st f (PySem.W.fnOf x qual (cS st) (cG st) (bA st) .none kV doc pm an cdv ct):=⟨⟨oc,od,kV,doc,pm,an,cdv,ct,osl,rfl,l,c⟩,k⟩
end
theorem fP {A:Around}{k:Nat}(hr:bU k A):A.units+1 < cLine:=db (aBg (by decide:1<=64) _) hr.units
theorem aH {n:Nat}(h:n<=1000):n < sizeLine:=db h (by decide)
section
variable {X:Cx}
theorem pv (i:Nat) {x:Str}{pos:Pos}(hN:autoParam (X.N[i]?=some x) Rq0._auto_1) (hv:Vis X.env.scope x:=by first | exact jg rfl | exact aBs (jg rfl) | exact aBs (aBs rfl)) (hd:autoParam ((x == ("__debug__": Str))=false) Rq1._auto_1)
  (hcd:autoParam ((x == ("__classdict__": Str))=false) Rq1._auto_1):PE X (.Name x pos) (cE4 i):=bU8 hN hv hd hcd
end
theorem cA7 {A B:Prop}(h:B):if false=true then A else B:=by
 rw [ap du]
 exact h
theorem qV {c A B:Prop} [Decidable c] (h1:c->A) (h2:¬ c->B):if c then A else B:=by
 by_cases h:c
 ·rw [bh h]
  exact h1 h
 ·rw [ap h]
  exact h2 h
theorem bZ3 {c A B:Prop} [Decidable c] (hc:c) (h:B):if (!decide c)=true then A else B:=by
 rw [ar hc]
 exact cA7 h
def aN (H H':Hp):Prop:=∀ b o,H b=some o->H' b=some o
theorem aN.refl (H:Hp):aN H H:=fun _ _ h=>h
theorem aN.trans {H H1 H2:Hp}(a:aN H H1) (b:aN H1 H2):aN H H2:=fun c o h=>b c o (a c o h)
theorem aN.free {H H':Hp}(e:aN H H') {l:Addr}(h:H' l=Option.none):H l=Option.none:=by
 cases q:H l with
 |none=>rfl
 |some o =>
  rw [e l o q] at h
  cases h
theorem aN.seq {K:PySem.W.Frag}{H H':Hp}{a:Addr}{xs:List V}(e:aN H H') (h:bK K H a xs):bK K H' a xs:=by
 rcases h with (h | ⟨o,h⟩) | h
 ·exact .inl (.inl (e _ _ h))
 ·exact .inl (.inr ⟨o,e _ _ h⟩)
 ·exact .inr h
section
variable {κ: Type} [DecidableEq κ]
theorem aJ4 {kvs:List (κ×V)}{k:κ}{v:V}(h:bH kvs k=some v):k∈kvs.map (·.1):=by
 have q:(kvs.any fun kv=>decide (kv.1=k))=true:=by
  rw [gB,h]
  all_goals rfl
 obtain ⟨p,hp,e⟩:=fy.mp q
 exact am.mpr ⟨p,hp,cf e⟩
end
end L2
set_option maxHeartbeats 4000000
namespace L2
open PySem PySem.Spec PyProof.Rows
def xH (env:Env) (names:List (Str×NameKind)):List (Str×Addr) :=
 names.foldl (fun cs y=>if y.2 == NameKind.free then (y.1,(env.cells.lookup y.1).getD 0) :: cs else cs) []
theorem aW3 {env:Env}:∀ (names:List (Str×NameKind)) (cs:List (Str×Addr)),(∀ y∈names,y.2= .free->∃ c,env.cells.lookup y.1=some c) ->
  (forIn names cs fun (y:Str×NameKind) (r:List (Str×Addr))=>(if y.2 == NameKind.free then (do let a <- cellOf env y.1;pure (ForInStep.yield ((y.1,a) :: r))) else pure (ForInStep.yield r):Sem (ForInStep (List (Str×Addr))))) =
   pure (names.foldl (fun cs y=>if y.2 == NameKind.free then (y.1,(env.cells.lookup y.1).getD 0) :: cs else cs) cs)
 |[],cs,_=>rfl
 |(n,k) :: r,cs,h=>by
  have ih:=fun cs'=>aW3 (env:=env) r cs' fun y hy=>h y (ba _ hy)
  rw [List.forIn_cons,jd]
  by_cases hk:k= .free
  ·subst hk
   obtain ⟨c,hc⟩:=h (n,.free) bj rfl
   have e:cellOf env n=pure c:=by unfold cellOf;rw [hc]
   simp only [beq_self_eq_true,if_true,e,pure_bind,hc,Option.getD_some]
   exact ih _
  ·have hb:(k == NameKind.free)=false:=by simpa using hk
   simp only [hb,Bool.false_eq_true,if_false,pure_bind]
   exact ih _
theorem tX {scope:Scope}{env:Env}(h:∀ y∈scope.names,y.2= .free->∃ c,env.cells.lookup y.1=some c):closureFor scope env=pure (xH env scope.names):=by
 unfold closureFor
 have e:=aW3 (env:=env) scope.names [] h
 simp only [] at e ⊢
 refine Eq.trans ?_ (ed (fun m:Sem (List (Str×Addr))=>m >>= fun cs=>pure cs) e)
 rfl
theorem aU8 {env:Env}{x:Str}{c:Addr}:∀ (names:List (Str×NameKind)) (cs:List (Str×Addr)),(∀ y∈names,y.2= .free->∃ c,env.cells.lookup y.1=some c) ->
  (names.foldl (fun cs y=>if y.2 == NameKind.free then (y.1,(env.cells.lookup y.1).getD 0) :: cs else cs) cs).lookup x=some c->cs.lookup x=some c\/env.cells.lookup x=some c
 |[],_,_,e=> .inl e
 |(n,k) :: r,cs,h,e=>by
  rw [jd] at e
  have ih:=aU8 r _ (fun y hy=>h y (ba _ hy)) e
  rcases ih with q | q
  ·by_cases hk:k= .free
   ·subst hk
    obtain ⟨c',hc⟩:=h (n,.free) bj rfl
    simp only [beq_self_eq_true,if_true,hc,Option.getD_some,List.lookup_cons] at q
    cases hx:x == n with
    |true =>
     rw [hx] at q
     have:x=n:=by simpa using hx
     subst this
     simp only [Option.some.injEq] at q
     subst q
     exact .inr hc
    |false =>
     rw [hx] at q
     exact .inl q
   ·have hb:(k == NameKind.free)=false:=by simpa using hk
    simp only [hb,Bool.false_eq_true,if_false] at q
    exact .inl q
  ·exact .inr q
theorem aC7 {env:Env}{x:Str}:∀ (names:List (Str×NameKind)) (cs:List (Str×Addr)),((x,NameKind.free)∈names\/∃ c,cs.lookup x=some c) ->
  ∃ c,(names.foldl (fun cs y=>if y.2 == NameKind.free then (y.1,(env.cells.lookup y.1).getD 0) :: cs else cs) cs).lookup x=some c
 |[],_,e=>by rcases e with e | e;exact absurd e (by simp);exact e
 |(n,k) :: r,cs,e=>by
  rw [jd]
  refine aC7 r _ ?_
  rcases e with e | ⟨c,e⟩
  ·rcases bo.mp e with z | z
   ·cases z
    right
    simp only [beq_self_eq_true,if_true,List.lookup_cons]
    exact ⟨_,rfl⟩
   ·exact .inl z
  ·right
   by_cases hk:k= .free
   ·subst hk
    simp only [beq_self_eq_true,if_true,List.lookup_cons]
    cases hx:x == n with
    |true=>exact ⟨_,rfl⟩
    |false=>exact ⟨c,e⟩
   ·have hb:(k == NameKind.free)=false:=by simpa using hk
    simp only [hb,Bool.false_eq_true,if_false]
    exact ⟨c,e⟩
theorem oR {env:Env}{x:Str}:∀ {names:List (Str×NameKind)},(∀ y∈names,y.2≠ .cell) ->
  ((names.map fun (n,k)=>if (k == NameKind.free && env.scope.kind == .function && env.kindOf n == some .cell) then (n,NameKind.cell) else (n,k)).lookup x=some .cell \/
   (names.map fun (n,k)=>if (k == NameKind.free && env.scope.kind == .function && env.kindOf n == some .cell) then (n,NameKind.cell) else (n,k)).lookup x=some .free)->(x,NameKind.free)∈names
 |[],_,h=>by simp at h
 |(n,k) :: r,hc,h=>by
  have ih:= @oR env x r fun y hy=>hc y (ba _ hy)
  have hk:=hc (n,k) bj
  simp only [List.map_cons] at h
  by_cases cc:(k == NameKind.free && env.scope.kind == .function && env.kindOf n == some .cell)=true
  ·rw [bh cc] at h
   have kf:k= .free:=by
    simp only [Bool.and_eq_true,beq_iff_eq] at cc
    exact cc.1.1
   subst kf
   simp only [List.lookup_cons] at h
   cases hx:x == n with
   |true =>
    have:x=n:=by simpa using hx
    subst this
    exact bj
   |false=>rw [hx] at h;exact ba _ (ih h)
  ·rw [ap cc] at h
   simp only [List.lookup_cons] at h
   cases hx:x == n with
   |true =>
    rw [hx] at h
    have:x=n:=by simpa using hx
    subst this
    rcases h with h | h
    ·simp only [Option.some.injEq] at h
     exact absurd h hk
    ·simp only [Option.some.injEq] at h
     subst h
     exact bj
   |false=>rw [hx] at h;exact ba _ (ih h)
abbrev bB8 (ifs:List Expr) (env:Env):Sem Bool:=forIn ifs true fun c r =>
 if r=true then do
  let ok <- isTrue c env (eval c env)
  pure (ForInStep.yield ok)
 else pure (ForInStep.yield r)
def aT7 (X:Cx) (ifs:List Expr) (t:TT):Prop :=
 ∀ (pins:List (Addr×Obj)) (s:Shared) (σ: St) (H:Hp) (Q:Bool->Hp->Prop),aQ X pins σ H s->t σ H Q ->
  wpAny (model X.prog X.w) X.A (bB8 ifs X.env) (TP X pins σ Q) X.xe s
def tYes:TT:=fun _ H Q=>Q true H
theorem cN {X:Cx}:aT7 X [] tYes:=fun _ _ _ H _ I h=>wpAny_tests_nil ⟨H,I,h⟩
theorem gM {X:Cx}{c:Expr}{t:TT}(h:PT X c t):aT7 X [c] t:=fun pins s σ H Q I q=>wpAny_tests_one (h pins s σ H Q I q)
abbrev aF4:Value->Shared->Prop:=fun _ _=>False
theorem aR6 {prog:Program}{w:World}{A:Around}{R:Result->Shared->Prop}{s0:Shared}{elt target iter:Expr}{ifs:List Expr}{scope:Scope}{pos:Pos}{it acc:Value}{env:Env}(W:Nat->Shared->Prop)
  (one:∀ k t,W k t->wpAny (model prog w) A (pyNext it) (fun r t1=>match r with
   |none=>R (.ok .next) t1
   |some v=>wpAny (model prog w) A (letOwnedTupleGo target it v) (fun _ t2=>wpAny (model prog w) A (assign target env v) (fun _ t3=>wpAny (model prog w) A (bB8 ifs env) (fun ok t4 =>
     if ok=true then wpAny (model prog w) A (eval elt env) (fun x t5=>wpAny (model prog w) A (call (.builtin "list.append") [acc,x]) (fun _ t6=>∃ j,j < k/\W j t6) aF4 t5) aF4 t4
     else ∃ j,j < k/\W j t4) aF4 t3) aF4 t2) aF4 t1) aF4 t)
  (k0:Nat) (h0:W k0 s0):codeAny (model prog w) A (.compLoop (.ListComp elt [⟨target,iter,ifs,0⟩] scope pos) 0 it acc env) R s0:=by
 refine codeAny_loop rfl W (fun k t hW=>?_) k0 h0
 refine wpAny_noted (m:=compTurn (.ListComp elt [⟨target,iter,ifs,0⟩] scope pos) 0 it acc env) ?_
 have no:∀ {P:Prop}{e:Value}{t:Shared},aF4 e t->P:=fun z=>z.elim
 rw [compTurn_list]
 refine aa (ue (aa (gh (one k t hW) (fun r t1 q1=>?_) fun _ _=>no)))
 match r with
 |none=>exact aj q1
 |some v =>
  refine aa (gh q1 (fun _ t2 q2=>aa (gh q2 (fun _ t3 q3=>aa (gh q3 (fun ok t4 q4=>?_) fun _ _=>no)) fun _ _=>no)) fun _ _=>no)
  match ok with
  |false=>exact aj ⟨rfl,q4⟩
  |true =>
   rw [bh rfl] at q4
   refine aa (aa (gh q4 (fun x t5 q5=>aa (gh q5 (fun _ t6 q6=>?_) fun _ _=>no)) fun _ _=>no))
   exact aj (aj ⟨rfl,q6⟩)
def zT (ix:List (Option Nat)) (σ: St):St:=ix.map fun o=>o.bind fun j=>σ[j]?.join
theorem bA6 {ix:List (Option Nat)}{σ: St}{i:Nat}{v:V}(h:(zT ix σ)[i]?=some (some v)):∃ j,ix[i]?=some (some j)/\σ[j]?=some (some v):=by
 unfold zT at h
 rw [cp] at h
 cases e:ix[i]? with
 |none=>rw [e] at h;cases h
 |some o =>
  rw [e] at h
  cases o with
  |none=>cases h
  |some j =>
   have h:some (σ[j]?.join)=some (some v):=h
   exists j,rfl,?_
   cases q:σ[j]? with
   |none=>rw [q] at h;cases h
   |some z=>rw [q] at h;cases h;rfl
def xQ (N:List Str) (sc scope:Scope) (N':List Str) (ix:List (Option Nat)):Bool :=
 ix.length == N'.length && (ix.zip N').all (fun p=>match p.1 with | none=>true | some j=>N[j]? == some p.2 && scope.names.lookup p.2 == some NameKind.free) &&
 scope.names.all (fun y=>y.2 != NameKind.cell && (y.2 != NameKind.free || sc.names.lookup y.1 == some NameKind.cell || sc.names.lookup y.1 == some NameKind.free) && (y.2 != NameKind.local || scope.names.lookup y.1 == some NameKind.local)) &&
 scope.kind == ScopeKind.function
structure iP (N:List Str) (sc scope:Scope) (N':List Str) (ix:List (Option Nat)):Prop where
 len:ix.length=N'.length
 at_:∀ (i j:Nat) (x:Str),ix[i]?=some (some j)->N'[i]?=some x->N[j]?=some x/\scope.names.lookup x=some .free
 nocell:∀ y∈scope.names,y.2≠ .cell
 free:∀ y∈scope.names,y.2= .free->sc.names.lookup y.1=some .cell\/sc.names.lookup y.1=some .free
 loc:∀ y∈scope.names,y.2= .local->scope.names.lookup y.1=some .local
 kind:scope.kind= .function
theorem iP.of {N:List Str}{sc scope:Scope}{N':List Str}{ix:List (Option Nat)}(h:xQ N sc scope N' ix=true):iP N sc scope N' ix:=by
 unfold xQ at h
 simp only [Bool.and_eq_true,beq_iff_eq,List.all_eq_true] at h
 obtain ⟨⟨⟨h1,h2⟩,h3⟩,h4⟩:=h
 exists h1,fun i j x a b=>?_,fun y hy e=>?_,fun y hy e=>?_,fun y hy e=>?_,h4
 ·have hm:(some j,x)∈ix.zip N':=bq (i:=i) (by rw [xz];exact ⟨a,b⟩)
  have q:=h2 _ hm
  simp only [Bool.and_eq_true,beq_iff_eq] at q
  exact q
 ·have q:=h3 y hy
  simp only [Bool.and_eq_true,bne_iff_ne,ne_eq] at q
  exact q.1.1 e
 ·have q:=(h3 y hy).1.2
  rw [e] at q
  simpa using q
 ·have q:=(h3 y hy).2
  rw [e] at q
  simpa using q
def cJ (X:Cx) (N':List Str) (scope:Scope) (C:Addr) (s₂:Shared) (H₂:Hp) (fp:List Addr):Cx where
 prog:=X.prog
 w:=X.w
 K:=X.K
 mg:=X.mg
 base:=X.base
 A:=X.A
 N:=N'
 s₀:=s₂
 H₀:=H₂
 env:=compEnvC scope (xH X.env scope.names) C X.env
 outer:=X.stack
 stack:=X.stack
 ex:=fp
 fn:=fun _=>false
 calm:=X.calm
 pn:=[]
 xe:=fun _ _=>False
section
variable {X:Cx}{N':List Str}{ix:List (Option Nat)}{scope:Scope}{pins:List (Addr×Obj)}{σ: St}{H₂:Hp}{s₂:Shared}{fp:List Addr}{C:Addr}
theorem iP.cells (S:iP X.N X.env.scope scope N' ix) (I:aQ X pins σ H₂ s₂):∀ y∈scope.names,y.2= .free->∃ c,X.env.cells.lookup y.1=some c:=fun y hy e=>I.ok.has y.1 (S.free y hy e)
theorem iP.get (S:iP X.N X.env.scope scope N' ix) (I:aQ X pins σ H₂ s₂) {x:Str}{c:Addr}(h:(xH X.env scope.names).lookup x=some c):X.env.cells.lookup x=some c:=by
 rcases aU8 scope.names [] (S.cells I) h with q | q
 ·exact absurd q (by simp)
 ·exact q
theorem aP4 (S:iP X.N X.env.scope scope N' ix) (I:aQ X pins σ H₂ s₂) (hf:∀ b∈fp,kS X pins H₂ b) (hC:s₂.heap.objs.size<=C) (hfC:∀ b∈fp,b < s₂.heap.objs.size):(cJ X N' scope C s₂ H₂ fp).Ok where
 mod:=I.ok.mod
 kind:=S.kind
 glob:=I.ok.glob
 blt:=I.ok.blt
 above:=hC
 inj:=fun x y c a b=>I.ok.inj x y c (S.get I a) (S.get I b)
 has:=fun x h=>aC7 scope.names [] (.inl (oR S.nocell h))
 cab:=fun x c h=>by cases h
 hd:=I.ok.hd
 frames:=I.ok.frames
 stk:= .inl rfl
 exf:=fun b hb=>⟨cw (cr (hfC b hb) hC),fun x c e=>(hf b hb).2.2.2.2.1 x c (S.get I e)⟩
 bs:=I.bs
 bsz:=cy I.ok.bsz I.sz
 noex:=fun b o e hb=>by
  rcases (hf b hb).2.2.2.1 with z | z
  ·exact I.ok.noex b o e z
  ·exact absurd (cr (bi e) (cy I.ok.bsz z)) (ff _)
 exfs:=fun b hb hm=>by
  rcases bo.mp (I.stkSub b hm) with z | z
  ·exact (hf b hb).2.1 z
  ·exact (hf b hb).2.2.1 z
 funs:=I.stack
 frf:=I.stkFree
theorem aF6 (S:iP X.N X.env.scope scope N' ix) (I:aQ X pins σ H₂ s₂) (hf:∀ b∈fp,kS X pins H₂ b) (hfC:∀ b∈fp,b < s₂.heap.objs.size) {D:Addr}{h₁:Heap}{tk:Nat}{m:Str->Option Value}{ob:Obj}
  (hC:s₂.heap.objs.size<=C) (hD:s₂.heap.objs.size<=D) (hDC:D≠C) (old:∀ b o,s₂.heap.get? b=some o->h₁.get? b=some o) (hn:h₁.Ns C m) (hob:h₁.get? D=some ob) (hd:∀ v,ob.data≠ .cell v) :
  aQ (cJ X N' scope C s₂ H₂ fp) [(D,ob)] (zT ix σ) H₂ { s₂ with heap:=h₁,toks:=tk }:=by
 have fr:∀ a,s₂.heap.objs.size<=a->H₂ a=none:=fun a ha=>I.hok.fresh ha
 have cOf:∀ x c,(xH X.env scope.names).lookup x=some c->X.env.cells.lookup x=some c:=fun x c e=>S.get I e
 exists aP4 S I hf hC hfC,rfl,I.bare,Un.kept old,⟨m,hn,fun i x v e1 e2 e3=>?_⟩,fun x c e=>?_,fr C hC,fun x c e=>I.freeC x c (cOf x c e),fun p hp=>?_,I.hok.kept old,?_
 ·obtain ⟨j,q1,q2⟩:=bA6 e2
  obtain ⟨n1,n2⟩:=S.at_ i j x q1 e1
  have hm:(x,NameKind.free)∈scope.names:=md n2
  have hv:Vis X.env.scope x:=by
   rcases S.free _ hm rfl with z | z
   ·exact .inr (.inl z)
   ·exact .inr (.inr z)
  obtain ⟨m0,_,hl⟩:=I.loc
  obtain ⟨u,r,l⟩:=hl j x v n1 q2 hv
  exists u,r,?_
  have hne:¬ X.env.kindOf x=some .local:=fun z=>by
   have z:X.env.scope.names.lookup x=some .local:=z
   rcases S.free _ hm rfl with y | y
   ·rw [y] at z;cases z
   ·rw [y] at z;cases z
  rcases l with ⟨k,_⟩ | ⟨k,c,e,z⟩
  ·exact absurd k hne
  ·obtain ⟨c',hc'⟩:=aC7 (env:=X.env) (x:=x) scope.names [] (.inl hm)
   have hc'':=cOf x c' hc'
   rw [e] at hc''
   cases hc''
   have kk:(cJ X N' scope C s₂ H₂ fp).env.kindOf x=some .cell\/(cJ X N' scope C s₂ H₂ fp).env.kindOf x=some .free:=by
    rcases e3 with y | y | y
    ·exfalso
     have:∀ {names:List (Str×NameKind)},names.lookup x=some .free ->
      (names.map fun (n,k)=>if (k == NameKind.free && X.env.scope.kind == .function && X.env.kindOf n == some .cell) then (n,NameKind.cell) else (n,k)).lookup x=some .local->False:=by
      intro names
      induction names with
      |nil=>intro a;simp at a
      |cons p r ih =>
       obtain ⟨n,k⟩:=p
       intro a b
       simp only [List.map_cons] at b
       simp only [List.lookup_cons] at a
       cases hx:x == n with
       |true =>
        rw [hx] at a
        simp only [Option.some.injEq] at a
        subst a
        split at b
        ·simp [List.lookup_cons,hx] at b
        ·simp [List.lookup_cons,hx] at b
       |false =>
        rw [hx] at a
        split at b
        ·simp only [List.lookup_cons,hx] at b;exact ih a b
        ·simp only [List.lookup_cons,hx] at b;exact ih a b
     exact this n2 y
    ·exact .inl y
    ·exact .inr y
   obtain ⟨oc,ho,hod⟩:=z
   exact .inr ⟨kk,c,hc',oc,old _ _ ho,hod⟩
 ·obtain ⟨v,o,ho,hod⟩:=I.cell x c (cOf x c e)
  exact ⟨v,o,old _ _ ho,hod⟩
 ·have hp:p∈[(D,ob)]:=hp
  have e:p=(D,ob):=by simpa using hp
  subst e
  exists hob,fr D hD,hDC,fun hb=>?_,hd
  have hb:D∈frs X.stack:=hb
  rcases bo.mp (I.stkSub D hb) with z | z
  ·exact absurd I.lt (by rw [<- z];exact vg.mpr hD)
  ·exact I.nofs hD z
 ·show (zT ix σ).length=N'.length
  unfold zT
  rw [ae,S.len]
theorem aF9 (I:aQ X pins σ H₂ s₂) (hf:∀ b∈fp,kS X pins H₂ b) {pins':List (Addr×Obj)}{σ':St}{H':Hp}{s':Shared}{D:Addr}{ys:List V}{its:List Value}(hC:s₂.heap.objs.size<=C) (hD:s₂.heap.objs.size<=D)
  (J:aQ (cJ X N' scope C s₂ H₂ fp) pins' σ' H' s') (hn:H' D=none) (hl:s'.heap.PlainList D its.toArray) (r:bB ys its) (hz:ys.length<=sizeLine):aQ X pins σ (aJ H' D (.lst ys)) s':=by
 have sb:Un (frs X.stack) fp H₂ H' s₂.heap s'.heap:=J.base
 have nD:∀ b u,H' b=some u->b≠D:=fun b u e=>aF e hn
 refine I.call' (ch:=fp) J.os ⟨sb.keep,sb.slot,fun b o e n hx=>?_,sb.there,fun b xs e=>?_,fun b o u e=>?_,fun b ps e=>?_⟩ (fun b u e=>?_) J.bare (fun b hb=>?_)
 ·rw [aE (cw (cr (bi e) hD))]
  exact sb.free b o e n hx
 ·have q:=sb.tups b xs e
  rw [aE (nD b _ q)];exact q
 ·have q:=sb.frzs b o u e
  rw [aE (nD b _ q)];exact q
 ·obtain ⟨more,q⟩:=sb.tbls b ps e
  exact ⟨more,by rw [aE (nD b _ q)];exact q⟩
 ·by_cases hb:b=D
  ·subst hb
   rw [aB] at e
   cases e
   obtain ⟨n,hg⟩:=hl
   exact ⟨hz,its,n,r,hg⟩
  ·rw [aE hb] at e
   exact (J.hok b u e).stay (fun c v _ q=>q) (fun c q=>by rw [aE (nD c _ q)];exact q) fun c xs q=>by rw [aE (nD c _ q)];exact q
 ·obtain ⟨_,f1,_,f3,f4,f5⟩:=hf b hb
  exact ⟨f3,f1,f4,f5⟩
end
def lM (J:It) (g:TG) (tc:TT) (te:TE) (Kf:List V->Hp->Prop) (σ0:St) (H1:Hp):Prop :=
 ∃ W:Nat->Nat->List V->St->Hp->Prop,(∃ m,W 0 m [] σ0 H1)/\∀ i m ys σ' H',W i m ys σ' H'->ys.length < sizeLine /\
  ((J.stop i H'/\Kf ys H')\/(J.go i H'/\∃ N:List V->St->Hp->Prop,(∀ ys' σ2 H2,N ys' σ2 H2->∃ m',m' < m/\W (i+1) m' ys' σ2 H2)/\∀ x H'',J.yld i H' x H''->g x σ' H'' fun σ2 H2=>tc σ2 H2 fun b H3 =>
   if b=true then te σ2 H3 fun y H4=>N (ys++[y]) σ2 H4 else N ys σ2 H3))
def bO9 (wi:TI) (ix:List (Option Nat)) (g:TG) (tc:TT) (te:TE):TE:=fun σ H Q =>
 wi σ H fun J H1=>lM J g tc te (fun ys H'=>∀ l,H' l=none->Q (.ref l) (aJ H' l (.lst ys))) (zT ix σ) H1
section
variable {X:Cx}{tg elt iter:Expr}{ifs:List Expr}{scope:Scope}{pos:Pos}{N':List Str}{ix:List (Option Nat)}{wi:TI}{g:TG}{tc:TT}{te:TE}
def bF9 (X:Cx) (pins:List (Addr×Obj)) (σ: St) (Kf:List V->Hp->Prop) (acc:Value) (C:Addr) (s':Shared):Prop :=
 ∃ D H' ys,acc= .ref D/\H' D=none/\aQ X pins σ (aJ H' D (.lst ys)) s'/\(∃ m,s'.heap.Ns C m)/\H' C=none/\D≠C/\C≠X.env.locals/\X.s₀.heap.objs.size<=C/\(∀ x c,X.env.cells.lookup x=some c->c≠C)/\(∀ p∈X.pn++pins,p.1≠C)/\Kf ys H'
theorem vV {pins:List (Addr×Obj)}{s₂:Shared}{σ: St}{H₂:Hp}{it:Addr}{fp:List Addr}{tn:Nat->Heap->Prop}{J:It}{Kf:List V->Hp->Prop}{RR:Value->Addr->Result->Shared->Prop}{E:Value->Shared->Prop}
  (S:iP X.N X.env.scope scope N' ix) (hc:X.calm=true)
  (hg:∀ C s₂ H₂ fp,PG (cJ X N' scope C s₂ H₂ fp) tg g) (ht:∀ C s₂ H₂ fp,aT7 (cJ X N' scope C s₂ H₂ fp) ifs tc) (he:∀ C s₂ H₂ fp,PE (cJ X N' scope C s₂ H₂ fp) elt te)
  (I2:aQ X pins σ H₂ s₂) (T:uF X.prog X.w X.K tg J fp it tn) (st2:tn 0 s₂.heap) (f2:∀ b∈fp,kS X pins H₂ b) (w:lM J g tc te Kf (zT ix σ) H₂)
  (hR:∀ acc C s',bF9 X pins σ Kf acc C s'->RR acc C (.ok .next) s') :
  wpAny (model X.prog X.w) X.A (newList []) (fun acc s₃=>wpAny (model X.prog X.w) X.A (newFunctionEnv scope X.env.globals (xH X.env scope.names) [] X.env.qual none .none (some X.env)) (fun cenv s₄ =>
   codeAny (model X.prog X.w) X.A (.compStart (.ListComp elt [⟨tg,iter,ifs,0⟩] scope pos) 0 (.ref it) acc { cenv with scope:=relabel scope X.env }) (RR acc cenv.locals) s₄) E s₃) E s₂:=by
 obtain ⟨W,⟨m0,w0⟩,turn⟩:=w
 refine gw (wpAny_newFunctionEnv S.nocell (by intro y hy;simp at hy) (fun h₁ nsN sbN=>?_) S.kind)
 dsimp only at nsN sbN ⊢
 generalize eH:s₂.heap.push { cls:= .type "list",dict:=none,data:= .seq ([]:List Value).toArray }=G2 at nsN sbN ⊢
 have sizeC:G2.objs.size=s₂.heap.objs.size+1:=by rw [<- eH,ip]
 have neDC:s₂.heap.objs.size≠G2.objs.size:=by rw [sizeC];exact cw (dy _)
 have leC:s₂.heap.objs.size<=G2.objs.size:=by rw [sizeC];exact zf _
 have older:∀ b,b < s₂.heap.objs.size->b≠G2.objs.size/\b≠s₂.heap.objs.size:=fun b hb=>⟨by rw [sizeC];exact cw (on hb),cw hb⟩
 have keepOld:∀ b o,s₂.heap.get? b=some o->h₁.get? b=some o:=fun b o e=>sbN.extBut b o (older b (bi e)).1 (af _ (eH ▸ af _ e))
 have accNew:h₁.PlainList s₂.heap.objs.size #[]:=⟨_,sbN.extBut _ _ neDC (af _ (eH ▸ aq _ rfl))⟩
 generalize eC:G2.objs.size=C at *
 generalize eD:s₂.heap.objs.size=D at *
 have hfC:∀ b∈fp,b < s₂.heap.objs.size:=fun b hb=>by
  obtain ⟨o,e,_⟩:=T.obj 0 _ st2 b hb
  exact bi e
 have hfD:∀ b∈fp,b≠D:=fun b hb=>by have:=hfC b hb;rw [eD] at this;exact cw this
 have hfC':∀ b∈fp,b≠C:=fun b hb=>by have:=hfC b hb;rw [eD] at this;exact cw (cr this leC)
 have geD:s₂.heap.objs.size<=D:=by rw [eD];exact ao _
 have geC:s₂.heap.objs.size<=C:=by rw [eD];exact leC
 obtain ⟨nn,hob⟩:=id accNew
 have J1:aQ (cJ X N' scope C s₂ H₂ fp) [] (zT ix σ) H₂ { s₂ with heap:=h₁,toks:=s₂.toks+([]:List (Str×Value)).length } :=
  (aF6 S I2 f2 hfC geC geD neDC keepOld nsN hob (fun v z=>by cases z)).pins_of (fun p hp=>absurd hp (by simp))
 have nfsD:D∉frs X.stack:=fun hb=>by
  rcases bo.mp (I2.stkSub D hb) with z | z
  ·exact absurd I2.lt (by rw [<- z];exact vg.mpr geD)
  ·exact I2.nofs geD z
 have cOf:∀ x c,(xH X.env scope.names).lookup x=some c->c≠D/\c≠C:=fun x c e=>by
  obtain ⟨v,z⟩:=I2.cell x c (S.get I2 e)
  have:=z.lt
  rw [eD] at this
  exact ⟨cw this,cw (cr this leC)⟩
 have fpk:∀ {pl:List (Addr×Obj)}{H':Hp},(∀ b∈fp,H' b=none)->(∀ p∈pl,p.1∉fp)->∀ b∈fp,kS (cJ X N' scope C s₂ H₂ fp) pl H' b:=fun {pl H'} hn hp b hb =>
  ⟨hn b hb,hfC' b hb,fun z=>by
    rcases bo.mp (I2.stkSub b z) with q | q
    ·exact (f2 b hb).2.1 q
    ·exact (f2 b hb).2.2.1 q,
   .inl hb,fun x c e=>(f2 b hb).2.2.2.2.1 x c (S.get I2 e),fun p hp' z=>hp p (by simpa [cJ] using hp') (by rw [z];exact hb)⟩
 have dpk:∀ {H':Hp},H' D=none->∀ b∈[D],kS (cJ X N' scope C s₂ H₂ fp) [] H' b:=fun {H'} hn b hb=>by
  have e:b=D:=by simpa using hb
  subst e
  exact ⟨hn,neDC,nfsD,.inr geD,fun x c e=>(cOf x c e).1,fun p hp=>absurd hp (by simp [cJ])⟩
 have loop:codeAny (model X.prog X.w) X.A (.compLoop (.ListComp elt [⟨tg,iter,ifs,0⟩] scope pos) 0 (.ref it) (.ref D) (compEnvC scope (xH X.env scope.names) C X.env)) (RR (.ref D) C) { s₂ with heap:=h₁,toks:=s₂.toks+([]:List (Str×Value)).length }:=by
  refine aR6 (fun n s'=>∃ i ys σ' H' its,aQ (cJ X N' scope C s₂ H₂ fp) [] σ' H' s'/\tn i s'.heap/\(∀ b∈fp,H' b=none)/\H' D=none/\s'.heap.PlainList D its.toArray/\bB ys its/\W i n ys σ' H') ?_ m0
   ⟨0,[],_,H₂,[],J1,T.keep _ _ _ st2 fun b _ o e=>keepOld b o e,fun b hb=>(f2 b hb).1,I2.hok.fresh geD,accNew,.nil,w0⟩
  rintro n s3 ⟨i,ys,σ3,H3,its,I3,st3,fr3,dn3,pl3,rv3,w3⟩
  obtain ⟨nn3,hob3⟩:=id pl3
  have oD:∀ b∈[D],∃ o,s3.heap.get? b=some o/\∀ v,o.data≠ .cell v:=fun b hb=>by
   have e:b=D:=by simpa using hb
   subst e
   exact ⟨_,hob3,fun v z=>by cases z⟩
  have I3':aQ (cJ X N' scope C s₂ H₂ fp) (iH [D] s3.heap) σ3 H3 s3:=by
   have:=I3.pinned (dpk dn3) oD
   simpa using this
  have pD:(D,({ cls:= .type "list",data:= .seq its.toArray nn3 }:Obj))∈iH [D] s3.heap:=iS (by simp) hob3
  have npD:∀ p∈iH [D] s3.heap,p.1∉fp:=fun p hp z=>by
   have e:p.1=D:=by simpa using (vN hp).1
   exact hfD _ z e
  obtain ⟨hys,tt⟩:=turn i n ys σ3 H3 w3
  rcases tt with ⟨stop,qn⟩ | ⟨go,N,hN,step⟩
  ·refine gh (T.done (cJ X N' scope C s₂ H₂ fp) rfl rfl rfl hc i (iH [D] s3.heap) s3 σ3 H3 (fun _ _=>False) I3' (fpk fr3 npD) st3 stop) (fun r s4 ⟨hr,I4⟩=>?_) fun _ _ z=>z
   subst hr
   have g4:=(I4.pin _ (dh _ pD)).1
   refine hR _ _ _ ⟨D,H3,ys,rfl,dn3,aF9 I2 f2 geC geD I4 dn3 ⟨nn3,g4⟩ rv3 (iz hys),?_,?_,neDC,?_,?_,?_,?_,qn⟩
   ·obtain ⟨m,hm,_⟩:=I4.loc
    exact ⟨m,hm⟩
   ·exact I4.free
   ·exact ph (cr I2.lt geC)
   ·exact cy I2.sz geC
   ·intro x c e z
    obtain ⟨v,q⟩:=I2.cell x c e
    exact absurd (cr q.lt geC) (by rw [z];exact ff _)
   ·intro p hp z
    exact absurd (cr (bi (I2.pin p hp).1) geC) (by rw [z];exact ff _)
  ·refine gh (T.item (cJ X N' scope C s₂ H₂ fp) rfl rfl rfl hc i (iH [D] s3.heap) s3 σ3 H3 (fun _ _=>False) I3' (fpk fr3 npD) st3 go) (fun r s4 ⟨u,hr,h4⟩=>?_) fun _ _ z=>z
   subst hr
   refine gh h4 (?_) fun _ _ z=>z;rintro _ s5 ⟨x,H5,I5,r5,y5,st5,fr5⟩
   have I5':=I5.pinned (fpk fr5 npD) (T.obj _ _ st5)
   refine gh (hg C s₂ H₂ fp _ s5 σ3 H5 x u _ I5' r5 (step x H5 y5)) (?_) fun _ _ z=>z;rintro _ s6 ⟨σ6,H6,I6,q6⟩
   refine gh (ht C s₂ H₂ fp _ s6 σ6 H6 _ I6 q6) (?_) fun _ _ z=>z;rintro b s7 ⟨H7,I7,q7⟩
   have fin:∀ {s8:Shared}{σ8:St}{H8:Hp},aQ (cJ X N' scope C s₂ H₂ fp) (iH [D] s3.heap++iH fp s5.heap) σ8 H8 s8->s8.heap.get? D=some { cls:= .type "list",data:= .seq its.toArray nn3 }/\H8 D=none /\
     tn (i+1) s8.heap/\∀ b∈fp,H8 b=none:=fun {s8 σ8 H8} I8=>by
    have q:=I8.pin _ (dh _ (fu _ pD))
    exists q.1,q.2.1,T.keep _ _ _ st5 fun b hb o e=>(I8.pin (b,o) (dh _ (dh _ (iS hb e)))).1,fun b hb=>?_
    obtain ⟨o,e,d⟩:=T.obj _ _ st5 b hb
    exact (I8.pin (b,o) (dh _ (dh _ (iS hb e)))).2.1
   cases b with
   |false =>
    obtain ⟨m',hm,w7⟩:=hN _ _ _ q7
    obtain ⟨a1,a2,a3,a4⟩:=fin I7
    exact ⟨m',hm,i+1,ys,σ6,H7,its,I7.pins_of fun p hp=>absurd hp (by simp),a3,a4,a2,⟨nn3,a1⟩,rv3,w7⟩
   |true =>
    refine gh (he C s₂ H₂ fp _ s7 σ6 H7 _ I7 q7) (?_) fun _ _ z=>z;rintro v s8 ⟨y,H8,I8,r8,n8⟩
    obtain ⟨m',hm,w8⟩:=hN _ _ _ n8
    obtain ⟨a1,a2,a3,a4⟩:=fin I8
    have hsz:its.toArray.size<=sizeLine:=by
     have:=rv3.length
     rw [cv]
     omega
    refine wpAny_list_append_plain (hsz:=hsz) ⟨nn3,a1⟩ fun h9 hl9 hs9=>?_
    have I9:aQ (cJ X N' scope C s₂ H₂ fp) [] σ6 H8 { s8 with heap:=h9 } :=
     (I8.pins_of (pins':=[]) fun p hp=>absurd hp (by simp)).turned (t':=s8.toks) (fun b o hb e=>(hs9.2 b hb).trans e) a2 neDC (.inr geD) (fun x c e=>(cOf x c e).1) fun p hp=>absurd hp (by simp [cJ])
    exists m',hm,i+1,ys++[y],σ6,H8,its++[v],I9,T.keep _ _ _ a3 fun b hb o e=>(hs9.2 b (hfD b hb)).trans e,a4,a2,?_,rv3.append (.cons r8 .nil),w8
    have e:(its++[v]).toArray=its.toArray.push v:=by simp
    rw [e];exact hl9
 exact codeAny_compStart_list loop (T.self _ 0 _ _ _ (T.keep _ _ _ st2 fun b _ o e=>keepOld b o e) loop)
theorem bJ (N':List Str) (ix:List (Option Nat)) (hi:PI X tg iter wi) (hg:∀ C s₂ H₂ fp,PG (cJ X N' scope C s₂ H₂ fp) tg g) (ht:∀ C s₂ H₂ fp,aT7 (cJ X N' scope C s₂ H₂ fp) ifs tc)
  (he:∀ C s₂ H₂ fp,PE (cJ X N' scope C s₂ H₂ fp) elt te) (S:autoParam (xQ X.N X.env.scope scope N' ix=true) Rq0._auto_1) (hc:autoParam (X.calm=true) Rq0._auto_1) (hs:autoParam (∀ x,foldedSetIterable iter X.env x=pure x) Rq4._auto_1) :
  PE X (.ListComp elt [⟨tg,iter,ifs,0⟩] scope pos) (bO9 wi ix g tc te):=by
 intro pins s σ H Q I h
 have S:=iP.of S
 rw [eval_ListComp]
 refine yg (use:=none) (cl:=xH X.env scope.names) rfl hs (tX fun y hy e=>I.ok.has y.1 (S.free y hy e)) S.kind S.loc (cO (hi pins s σ H _ I h) fun xv s₁ h₁=>cO h₁ fun itv s₂ h₂=>?_)
 obtain ⟨it,fp,tn,J,H₂,rfl,I2,T,st2,f2,w⟩:=h₂
 refine vV (RR:=fun acc C=>compPost (model X.prog X.w) X.A X.xe none (EP X pins σ Q) acc C) S hc hg ht he I2 T st2 f2 w fun acc C s' ce=>?_
 obtain ⟨D,H',ys,rfl,dn,J',hm,cn,dc,c1,c2,c3,c4,kf⟩:=ce
 obtain ⟨m,hm⟩:=hm
 exists m,hm,fun h' hs'=>⟨.ref D,_,J'.turned (t':=s'.toks) (fun b o hb e=>(hs'.2 b hb).trans e) (by rw [aE dc.symm];exact cn) c1 (.inr c2) c3 c4,rfl,kf D dn⟩
theorem iB (N':List Str) (ix:List (Option Nat)) {i:Nat}{x:Str}{pos' spos:Pos}(hN:X.N.Nodup) (hxi:X.N[i]?=some x) (hx:Loc X.env.scope x) (hi:PI X tg iter wi) (hg:∀ C s₂ H₂ fp,PG (cJ X N' scope C s₂ H₂ fp) tg g) (ht:∀ C s₂ H₂ fp,aT7 (cJ X N' scope C s₂ H₂ fp) ifs tc)
  (he:∀ C s₂ H₂ fp,PE (cJ X N' scope C s₂ H₂ fp) elt te) (S:autoParam (xQ X.N X.env.scope scope N' ix=true) Rq0._auto_1) (hc:autoParam (X.calm=true) Rq0._auto_1) (hs:autoParam (∀ x,foldedSetIterable iter X.env x=pure x) Rq4._auto_1)
  (hsw:autoParam (swapsWith (.ListComp elt [⟨tg,iter,ifs,0⟩] scope pos) (some (.Name x pos')) spos.line X.env=pure true) Rq0._auto_1) (hf:autoParam (X.fn x=true\/X.env.scope.names.lookup x=some .local) Rq2._auto_1) :
  PS X (.Assign [.Name x pos'] (.ListComp elt [⟨tg,iter,ifs,0⟩] scope pos) spos) (bC4 (bO9 wi ix g tc te) (wD i)):=by
 intro pins s σ H D I h
 have S:=iP.of S
 rw [exec_Assign_Name_used _ _ _ _ hsw]
 refine aa (ue (aa ?_))
 show wpAny _ X.A (do let _ <- comprehension (.ListComp elt [⟨tg,iter,ifs,0⟩] scope pos) scope X.env _ (newList []) false (eval iter X.env) (some (assign (.Name x pos') X.env))) _ _ s
 refine aa (gh (yg (use:=some (assign (.Name x pos') X.env)) (cl:=xH X.env scope.names) (Q:=fun _ s'=>SP X pins D .next s') rfl hs (tX fun y hy e=>I.ok.has y.1 (S.free y hy e)) S.kind S.loc
  (cO (hi pins s σ H _ I h) fun xv s₁ h₁=>cO h₁ fun itv s₂ h₂=>?_)) (fun _ s' hq=>aj (aj hq)) fun _ _ e=>e)
 obtain ⟨it,fp,tn,J,H₂,rfl,I2,T,st2,f2,w⟩:=h₂
 refine vV (RR:=fun acc C=>compPost (model X.prog X.w) X.A X.xe (some (assign (.Name x pos') X.env)) (fun _ s'=>SP X pins D .next s') acc C) S hc hg ht he I2 T st2 f2 w fun acc C s' ce=>?_
 obtain ⟨D',H',ys,rfl,dn,J',hm,cn,dc,c1,c2,c3,c4,kf⟩:=ce
 obtain ⟨m,hm⟩:=hm
 show wpAny _ X.A (assign (.Name x pos') X.env (.ref D')) _ _ _
 refine wpAny_assign_Name (wJ (v:= .ref D') J' hN hxi hx rfl (fun s2 J2 hsb=>?_) hf)
 obtain ⟨a,hsb,ha⟩:=hsb
 have hCa:C≠a:=by
  rcases ha with z | z
  ·rw [z];exact c1
  ·exact (c3 x a z).symm
 exists m,hm.sameBut hsb hCa,fun h' hs'=>?_
 exact ⟨_,_,J2.turned (t':=s2.toks) (fun b o hb e=>(hs'.2 b hb).trans e) (by rw [aE dc.symm];exact cn) c1 (.inr c2) c3 c4,kf D' dn⟩
theorem cR {K:PySem.W.Frag}{a:Addr}{xs:List V}{Kf:List V->Hp->Prop}{σ0:St}{H1:Hp}(Pv:Nat->List V->St->Hp->Prop) (hz:xs.length < sizeLine) (h0:Pv 0 [] σ0 H1) (hb:∀ i ys σ H,Pv i ys σ H->ys.length<=i) (hl:∀ i ys σ H,i<=xs.length->Pv i ys σ H->bK K H a xs)
  (hs:∀ i x ys σ H,xs[i]?=some x->Pv i ys σ H->g x σ H fun σ2 H2=>tc σ2 H2 fun b H3=>if b=true then te σ2 H3 fun y H4=>Pv (i+1) (ys++[y]) σ2 H4 else Pv (i+1) ys σ2 H3) (hd:∀ ys σ H,Pv xs.length ys σ H->Kf ys H):lM (Itl K a) g tc te Kf σ0 H1:=by
 exists fun i m ys σ H=>m=xs.length - i/\i<=xs.length/\Pv i ys σ H,⟨xs.length,by simp,df _,h0⟩,?_
 rintro i m ys σ H ⟨rfl,hi,p⟩
 have q:=hl i ys σ H hi p
 exists db (hb _ _ _ _ p) (db hi hz),?_
 by_cases hlt:i < xs.length
 ·refine .inr ⟨⟨xs,xs[i],q,by simp [hlt]⟩,Pv (i+1),fun ys' σ' H' p'=>⟨xs.length - (i+1),gk hlt (dy i),rfl,hlt,p'⟩,fun x H' y=>?_⟩
  obtain ⟨e,y⟩:=y
  subst e
  exact hs i x ys σ _ (y xs q) p
 ·have e:i=xs.length:=∅
  subst e
  exact .inl ⟨⟨xs,q,ao _⟩,hd ys σ H p⟩
theorem cC {K:PySem.W.Frag}{a:Addr}{xs:List V}{Kf:List V->Hp->Prop}{σ0:St}{H1:Hp}(Pv:Nat->List V->St->Hp->Prop) (hz:xs.length < sizeLine) (h0:Pv 0 [] σ0 H1) (hb:∀ i ys σ H,Pv i ys σ H->ys.length<=i) (hl:∀ i ys σ H,i<=xs.length->Pv i ys σ H->aT K H a xs)
  (hs:∀ i x ys σ H,xs[i]?=some x->Pv i ys σ H->g x σ H fun σ2 H2=>tc σ2 H2 fun b H3=>if b=true then te σ2 H3 fun y H4=>Pv (i+1) (ys++[y]) σ2 H4 else Pv (i+1) ys σ2 H3) (hd:∀ ys σ H,Pv xs.length ys σ H->Kf ys H):lM (Itt K a) g tc te Kf σ0 H1:=by
 exists fun i m ys σ H=>m=xs.length - i/\i<=xs.length/\Pv i ys σ H,⟨xs.length,by simp,df _,h0⟩,?_
 rintro i m ys σ H ⟨rfl,hi,p⟩
 have q:=hl i ys σ H hi p
 exists db (hb _ _ _ _ p) (db hi hz),?_
 by_cases hlt:i < xs.length
 ·refine .inr ⟨⟨xs,xs[i],q,by simp [hlt]⟩,Pv (i+1),fun ys' σ' H' p'=>⟨xs.length - (i+1),gk hlt (dy i),rfl,hlt,p'⟩,fun x H' y=>?_⟩
  obtain ⟨e,y⟩:=y
  subst e
  exact hs i x ys σ _ (y xs q) p
 ·have e:i=xs.length:=∅
  subst e
  exact .inl ⟨⟨xs,q,ao _⟩,hd ys σ H p⟩
theorem mY {lo:Int}{n:Nat}{Kf:List V->Hp->Prop}{σ0:St}{H1:Hp}(Pv:Nat->List V->St->Hp->Prop) (hz:n < sizeLine) (h0:Pv 0 [] σ0 H1) (hb:∀ i ys σ H,Pv i ys σ H->ys.length<=i)
  (hs:∀ i ys σ H,i < n->Pv i ys σ H->g (.int (lo+i)) σ H fun σ2 H2=>tc σ2 H2 fun b H3=>if b=true then te σ2 H3 fun y H4=>Pv (i+1) (ys++[y]) σ2 H4 else Pv (i+1) ys σ2 H3) (hd:∀ ys σ H,Pv n ys σ H->Kf ys H):lM (Itr lo n) g tc te Kf σ0 H1:=by
 exists fun i m ys σ H=>m=n - i/\i<=n/\Pv i ys σ H,⟨n,by simp,df _,h0⟩,?_
 rintro i m ys σ H ⟨rfl,hi,p⟩
 exists db (hb _ _ _ _ p) (db hi hz),?_
 by_cases hlt:i < n
 ·refine .inr ⟨hlt,Pv (i+1),fun ys' σ' H' p'=>⟨n - (i+1),gk hlt (dy i),rfl,hlt,p'⟩,fun x H' y=>?_⟩
  obtain ⟨e,y⟩:=y
  subst e y
  exact hs i ys σ _ hlt p
 ·have e:i=n:=∅
  subst e
  exact .inl ⟨ao _,hd ys σ H p⟩
end
theorem bA5:typeLookup (.type "list_reverseiterator") "__len__"=pure none:=by rw [vh,qj];kernel_rfl
theorem bL3:typeLookup (.type "list_reverseiterator") "__length_hint__"=pure (some (.builtin "list_reverseiterator.__length_hint__")):=by rw [vh,qj];kernel_rfl
abbrev newL:Obj:={ cls:= .type "list",data:= .seq #[] }
section
variable {prog:Program}{w:World}{A:Around}{E:Value->Shared->Prop}{Q:Value->Shared->Prop}{s:Shared}{it p:Addr}{items:Array Value}
theorem zN (hh:A.handled=none) (ne:p≠it) (hi:s.heap.IsRevIter it p ((items.size:Int) - 1)) (hp:s.heap.IsList p items) (hz:items.size<=sizeLine)
  (k:∀ t got c,(∀ b o,b≠it->s.heap.get? b=some o->t.heap.get? b=some o)->t.gens=s.gens->t.os=s.os ->
   t.heap.get? s.heap.objs.size=some { cls:= .type "list",dict:=none,data:= .seq got c,slots:= #[] }->got.toList=items.toList.reverse->Q (.ref s.heap.objs.size) t) :
  wpAny (model prog w) A (call (.type "list") [.ref it]) Q E s:=by
 let W:=(Walks.listRev (prog:=prog) (w:=w) (A:=A.in1.in1) hh it p ne items).toS
 have st0:0<=items.size/\s.heap.IsRevIter it p ((items.size:Int) - 1 - ((0:Nat):Int))/\s.heap.IsList p items:=⟨df _,by simpa using hi,hp⟩
 have itLt:it < s.heap.objs.size:=by
  obtain ⟨o,e,_⟩:=hi
  exact bi e
 have pLt:p < s.heap.objs.size:=by
  obtain ⟨o,e,_⟩:=hp
  exact bi e
 have fresh:s.heap.objs.size∉[it,p]:=fun m=>by
  rcases bo.mp m with z | z
  ·exact ff _ (z ▸ itLt)
  ·exact ff _ ((ck.mp z) ▸ pLt)
 have neS:s.heap.objs.size≠it:=fun z=>fresh (by rw [z];exact bj)
 refine wn (Q₁:=fun o t=>o= .ref s.heap.objs.size/\t={ s with heap:=s.heap.push newL }) F.called_list (F.typeCall_list_1 _) F.entry_list_init (code_list_new _ ⟨rfl,rfl⟩) ?_
 rintro _ _ ⟨rfl,rfl⟩
 have hS:(s.heap.push newL).get? s.heap.objs.size=some newL:=aq _ rfl
 exists ⟨_,hS,rfl⟩,F.args_list_init_2 _ _,?_
 refine aa (m:=Builtin.List.listItems (.ref s.heap.objs.size)) (aa (ia hS rfl (aj ?_)))
 refine aa (m:=updateSeq s.heap.objs.size fun _=> #[]) (wpAny_updateSeq hS rfl (aa (zu ?_)))
 have hS2:=kd (Obj.mapSeq fun _=>(#[]:Array Value)) hS rfl
 have older:∀ b o,s.heap.get? b=some o->((s.heap.push newL).update s.heap.objs.size (Obj.mapSeq fun _=>(#[]:Array Value))).get? b=some o:=fun b o e =>
  (uc _ _ (ph (bi e))).trans (af _ e)
 have st1:=W.frame 0 s ((s.heap.push newL).update s.heap.objs.size (Obj.mapSeq fun _=>(#[]:Array Value))) s.toks st0 (ao _) fun b _ o e=>older b o e
 have ty:∀ i t,(fun (i:Nat) (t:Shared)=>i<=items.size/\t.heap.IsRevIter it p ((items.size:Int) - 1 - (i:Int))/\t.heap.IsList p items) i t->t.TypeIs (.ref it) "list_reverseiterator":=fun i t z=>z.2.1.typeIs
 unfold Builtin.List.listExtendWith
 refine aa (my (ty 0 _ st1) ?_)
 have same:Builtin.List.listSameRef (.ref s.heap.objs.size) (.ref it)=false:=by simp [Builtin.List.listSameRef,neS]
 rw [ap (by rw [same];decide)]
 refine aa (W.self 0 _ _ _ st1 (aa (fg ?_)))
 unfold Builtin.List.listLengthHint
 refine aa (kh (ty 0 _ st1) bA5 ?_)
 refine aa (m:=specialOf (Value.ref it) (Str.ofString "__length_hint__")) (kh (ty 0 _ st1) bL3 ?_)
 generalize hid:("list_reverseiterator.__length_hint__": String)=id0
 wp_delta
 rw [show splitId id0=some ("list_reverseiterator","__length_hint__") from by subst hid;decide +kernel]
 subst hid
 refine aa (mf (b:=true) (ty 0 _ st1) (by rw [isSubtype_type];kernel_rfl) (aj ?_))
 rw [ap (by decide)]
 refine aj ⟨plainId_quiet F.plain_extend_loop _,codeAny_extend_loopS W hz _ fresh _ items.size 0 _ _ _ rfl (df _) st1 hS2 (ItemsOf.nil _) fun t got c mv at' its=>⟨rfl,?_⟩⟩
 refine k t got c (fun b o hb e=>mv.heap b o (fun m=>?_) (older b o e)) mv.gens mv.os at' ?_
 ·rcases bo.mp m with z | z
  ·exact absurd (bi e) (by rw [z];exact ff _)
  ·exact hb (ck.mp z)
 ·obtain ⟨len,each⟩:=its
  refine List.ext_getElem? fun j=>?_
  by_cases hj:j < items.size
  ·have g:got[j]?=some got[j]:=oy ∅
   rw [List.getElem?_reverse (by simpa using hj),gu,gu,g, <- each j _ g]
   simp
  ·rw [um (by simp;omega),um (by simp;omega)]
end
def aT5 (K:PySem.W.Frag) (te:TE):TE:=fun σ H Q=>te σ H fun x H1=>∃ a ys,x= .ref a/\bK K H1 a ys/\∀ l,H1 l=none->Q (.ref l) (aJ H1 l (.lst ys.reverse))
theorem aI1 {X:Cx}{e:Expr}{te:TE}{p1 p2 pos1 pos2:Pos}(he:PE X e te) (g1:Gl X "list") (m1:X.mg "list"=none) (g2:Gl X "reversed") (m2:X.mg "reversed"=none) (hc:autoParam (X.calm=true) Rq0._auto_1)
  (hs1:autoParam (starEach [.Call (.Name "reversed" p2) [e] [] pos2] X.env=[(false,eval (.Call (.Name "reversed" p2) [e] [] pos2) X.env)]) Rq0._auto_1) (hs2:autoParam (starEach [e] X.env=[(false,eval e X.env)]) Rq0._auto_1) :
  PE X (.Call (.Name "list" p1) [.Call (.Name "reversed" p2) [e] [] pos2] [] pos1) (aT5 X.K te):=by
 intro pins s σ H Q I h
 refine kc (kH I g1 m1 jv ?_)
 refine gt ?_ hs1 rfl
 rw [hs1]
 refine ka (kc (kH I g2 m2 PyProof.Rows.boot_reversed ?_))
 refine gt ?_ hs2 rfl
 rw [hs2]
 refine ka (cO (he pins s σ H _ I h) ?_);rintro u s1 ⟨x,H1,I1,r1,a,ys,ex,hq,q⟩;refine qg ?_
 subst ex
 cases r1
 obtain ⟨its,rv,pl,hz⟩:=I1.list hq
 have il:=pl.isList
 refine call_reversed_list il (qg ?_)
 have I2:aQ X pins σ H1 { s1 with heap:=s1.heap.push (revObj a ((its.toArray.size:Int) - 1)) }:=I1.kept (t':=s1.toks) fun b o e=>af _ e
 have aLt:a < s1.heap.objs.size:=by
  obtain ⟨o,e,_⟩:=il
  exact bi e
 have len:=rv.length
 obtain ⟨f0,f1,f2,f3,f4,f5⟩:kS X pins H1 s1.heap.objs.size:=I1.fpOk (ao _) (I1.hok.fresh (ao _))
 refine zN (p:=a) (items:=its.toArray) (I.ok.hd hc) (cw aLt) ⟨_,aq _ rfl,rfl,rfl⟩ (il.at fun o e=>af _ e) (by rw [cv];omega) ?_
 intro t got c keep gens os at' eg
 obtain ⟨D,eD⟩:∃ D,(s1.heap.push (revObj a ((its.toArray.size:Int) - 1))).objs.size=D:=⟨_,rfl⟩
 have hD:(s1.heap.push (revObj a ((its.toArray.size:Int) - 1))).objs.size<=D:=aBk eD
 dsimp only at at' ⊢
 rw [eD] at at' ⊢
 have fD:H1 D=none:=I2.hok.fresh hD
 have neT:∀ b u,H1 b=some u->b≠s1.heap.objs.size:=fun b u e z=>by rw [z,f0] at e;cases e
 exists .ref D,aJ H1 D (.lst ys.reverse),I2.call' (ch:=[s1.heap.objs.size]) os ⟨fun b o e n _ hx=>keep b o (fun z=>hx (by simp [z])) e,fun b o e n _ hx=>⟨o.slots,keep b o (fun z=>hx (by simp [z])) e⟩,fun b o e n _=>?_,fun b o e hx=>⟨o,keep b o (fun z=>hx (by simp [z])) e⟩,fun b xs e=>?_,fun b o u e=>?_,fun b ps e=>⟨#[],?_⟩⟩ (fun b u e=>?_) (by rw [gens];exact I2.bare) (fun b hb=>?_),rfl,q D fD
 ·rw [aE (fun z=>absurd (bi e) (by rw [z];exact vg.mpr hD))];exact n
 ·rw [aE (aF e fD)];exact e
 ·rw [aE (aF e fD)];exact e
 ·rw [aE (aF e fD),e];simp
 ·by_cases hb:b=D
  ·subst hb
   rw [aB] at e
   cases e
   have at2:t.heap.get? b=some { cls:= .type "list",dict:=none,data:= .seq its.reverse.toArray c,slots:= #[] }:=by
    rw [at', <- vi (xs:=got),eg]
   exact ⟨by rw [List.length_reverse];exact hz,its.reverse,c,bB.reverse rv,at2⟩
  ·rw [aE hb] at e
   refine (I2.hok b u e).stay (fun c' v hc' q'=>keep c' v ?_ q') (fun c' q'=>by rw [aE (aF q' fD)];exact q') fun c' xs q'=>by rw [aE (aF q' fD)];exact q'
   rcases hc' with z | z
   ·rw [z];exact neT b u e
   ·exact neT c' _ z
 ·have z:b=s1.heap.objs.size:=by simpa using hb
  subst z
  exact ⟨f3,f1,f4,f5⟩
def cC8 (i j:Int):Prop:=0 < j/\j < 2 ^ 250
theorem aV3 {X:Cx}:jX X (binaryOp .FloorDiv) (rI cC8 fun i j=> .int (i / j)):=opI fun i j _ _ _ _ _ hc q=>by
 obtain ⟨h0,h1⟩:=hc
 refine aBt ∅ ?_ (.inl (sj ?_))
 ·rw [qu i ∅];exact q
 ·have h2:j.natAbs < 2 ^ 250:=by
   have e:((j.natAbs:Nat):Int)=j:=Int.natAbs_of_nonneg ∅
   have:((j.natAbs:Nat):Int) < ((2 ^ 250:Nat):Int):=by rw [e];exact_mod_cast h1
   exact Int.ofNat_lt.mp this
  have h3:j.natAbs≠0:=∅
  have h4:j.natAbs.log2 < 250:=(zw h3).mpr h2
  exact cr h4 (by decide)
def eM (sd n:Int) (l:Addr):List (Key×V):=[(.inr "seed",.int sd),(.inr "number",.int n),(.inr "left",.ref l)]
theorem ksn:¬ ((Sum.inr ("seed": Str):Key)=Sum.inr ("number": Str)):=by decide +kernel
theorem ksl:¬ ((Sum.inr ("seed": Str):Key)=Sum.inr ("left": Str)):=by decide +kernel
theorem knl:¬ ((Sum.inr ("number": Str):Key)=Sum.inr ("left": Str)):=by decide +kernel
theorem kns:¬ ((Sum.inr ("number": Str):Key)=Sum.inr ("seed": Str)):=by decide +kernel
theorem kls:¬ ((Sum.inr ("left": Str):Key)=Sum.inr ("seed": Str)):=by decide +kernel
theorem kln:¬ ((Sum.inr ("left": Str):Key)=Sum.inr ("number": Str)):=by decide +kernel
theorem aP7 (sd n:Int) (l:Addr):bH (eM sd n l) (Sum.inr "seed": Key)=some (.int sd):=by unfold eM;rw [bR rfl]
theorem zK (sd n:Int) (l:Addr):bH (eM sd n l) (Sum.inr "number": Key)=some (.int n):=by unfold eM;rw [aZ ksn,bR rfl]
theorem aN3 (sd n:Int) (l:Addr):bH (eM sd n l) (Sum.inr "left": Key)=some (.ref l):=by unfold eM;rw [aZ ksl,aZ knl,bR rfl]
theorem aW1 (sd n v:Int) (l:Addr):bF (eM sd n l) (Sum.inr "seed": Key) (.int v)=eM v n l:=by
 unfold bF eM
 simp
 exact ⟨fun z=>absurd (ed Sum.inr z) kns,fun z=>absurd (ed Sum.inr z) kls⟩
theorem aG7 (sd n v:Int) (l:Addr):bF (eM sd n l) (Sum.inr "number": Key) (.int v)=eM sd v l:=by
 unfold bF eM
 simp
 exact ⟨fun z=>absurd (ed Sum.inr z) ksn,fun z=>absurd (ed Sum.inr z) kln⟩
structure cF (H:Hp) (d l:Addr) (sd n:Int) (ls:List Int):Prop where
 dc:H d=some (.dK (eM sd n l))
 lc:H l=some (.lst (ls.map V.int))
 s0:0<=sd
 s1:sd < 2147483647
 n0:0<=n
 l0:∀ x∈ls,0<=x
def eZ (H:Hp) (d l:Addr):Prop:=∃ sd n ls,cF H d l sd n ls
theorem cF.ne {H:Hp}{d l:Addr}{sd n:Int}{ls:List Int}(D:cF H d l sd n ls):d≠l:=bN D.dc D.lc (by intro z;cases z)
def dM (d l:Addr) (H H':Hp):Prop:=∀ b o,H b=some o->b≠d->b≠l->H' b=some o
theorem dM.refl {d l:Addr}(H:Hp):dM d l H H:=fun _ _ e _ _=>e
theorem dM.trans {d l:Addr}{H H1 H2:Hp}(a:dM d l H H1) (b:dM d l H1 H2):dM d l H H2:=fun c o e h1 h2=>b c o (a c o e h1 h2) h1 h2
theorem dM.of {d l:Addr}{H H':Hp}(s:aN H H'):dM d l H H':=fun c o e _ _=>s c o e
theorem dM.upd_d {d l:Addr}{H:Hp}{o:HO}:dM d l H (aJ H d o):=fun b u e h1 _=>by rw [aE h1];exact e
theorem dM.upd_l {d l:Addr}{H:Hp}{o:HO}:dM d l H (aJ H l o):=fun b u e _ h1=>by rw [aE h1];exact e
theorem aA {H:Hp}{p:Addr}(h:H p=none) (o:HO):aN H (aJ H p o):=fun b u q=>by rw [aE (aF q h)];exact q
theorem cF.seed {H:Hp}{d l:Addr}{sd n:Int}{ls:List Int}(D:cF H d l sd n ls) {v:Int}(h0:0<=v) (h1:v < 2147483647):cF (aJ H d (.dK (eM v n l))) d l v n ls :=
 ⟨aB,by rw [aE D.ne.symm];exact D.lc,h0,h1,D.n0,D.l0⟩
theorem cF.number {H:Hp}{d l:Addr}{sd n:Int}{ls:List Int}(D:cF H d l sd n ls) {v:Int}(h0:0<=v):cF (aJ H d (.dK (eM sd v l))) d l sd v ls :=
 ⟨aB,by rw [aE D.ne.symm];exact D.lc,D.s0,D.s1,h0,D.l0⟩
theorem cF.left {H:Hp}{d l:Addr}{sd n:Int}{ls ls':List Int}(D:cF H d l sd n ls) (h:∀ x∈ls',0<=x):cF (aJ H l (.lst (ls'.map V.int))) d l sd n ls' :=
 ⟨by rw [aE D.ne];exact D.dc,aB,D.s0,D.s1,D.n0,h⟩
theorem cF.out {H H':Hp}{d l:Addr}{sd n:Int}{ls:List Int}(D:cF H d l sd n ls) (s:aN H H'):cF H' d l sd n ls:=⟨s _ _ D.dc,s _ _ D.lc,D.s0,D.s1,D.n0,D.l0⟩
theorem eZ.same {H H':Hp}{d l:Addr}(D:eZ H d l) (s:aN H H'):eZ H' d l:=by obtain ⟨sd,n,ls,q⟩:=D;exact ⟨sd,n,ls,q.out s⟩
theorem cF.gs {H:Hp}{d l:Addr}{sd n:Int}{ls:List Int}(D:cF H d l sd n ls):fJ H d (.str "seed") (some (.int sd)):=by rw [<- aP7 sd n l];exact fJ.k (k:=Sum.inr "seed") D.dc
theorem cF.gn {H:Hp}{d l:Addr}{sd n:Int}{ls:List Int}(D:cF H d l sd n ls):fJ H d (.str "number") (some (.int n)):=by rw [<- zK sd n l];exact fJ.k (k:=Sum.inr "number") D.dc
theorem cF.gl {H:Hp}{d l:Addr}{sd n:Int}{ls:List Int}(D:cF H d l sd n ls):fJ H d (.str "left") (some (.ref l)):=by rw [<- aN3 sd n l];exact fJ.k (k:=Sum.inr "left") D.dc
theorem cF.ps {H:Hp}{d l:Addr}{sd n:Int}{ls:List Int}(D:cF H d l sd n ls) (v:Int):kB H d (.str "seed") (.int v) (aJ H d (.dK (eM v n l))):=by
 rw [<- aW1 sd n v l];exact kB.k (k:=Sum.inr "seed") D.dc (aH (by show 3<=1000;decide))
theorem cF.pn {H:Hp}{d l:Addr}{sd n:Int}{ls:List Int}(D:cF H d l sd n ls) (v:Int):kB H d (.str "number") (.int v) (aJ H d (.dK (eM sd v l))):=by
 rw [<- aG7 sd n v l];exact kB.k (k:=Sum.inr "number") D.dc (aH (by show 3<=1000;decide))
def spDraw:Sp:=fun vs H Q _=>∃ (d l:Addr) (m:Int),vs=[.ref d,.int m]/\eZ H d l/\0 < m/\m < 2 ^ 64 /\
 ∀ (r:Int) (H':Hp),0<=r->r < m->eZ H' d l->dM d l H H'->Q (.int r) H'
def aX8 (K:PySem.W.Frag):Sp:=fun vs H Q _=>∃ (a:Addr) (ns:List Int) (b:Int),vs=[.ref a,.int b]/\bK K H a (ns.map V.int)/\ns.length<=63/\0<=b/\b<=1000 /\
 ∀ (d l:Addr) (H':Hp),H d=none->H l=none->eZ H' d l->aN H H'->Q (.ref d) H'
theorem rX {ns:List Int}{i:Nat}{y:V}(h:(ns.map V.int)[i]?=some y):∃ z,y=V.int z/\ns[i]?=some z:=by
 rw [cp] at h
 cases e:ns[i]? with
 |none=>rw [e] at h;cases h
 |some z=>rw [e] at h;exact ⟨z,(dm h).symm,rfl⟩
mutual
def fN (K:PySem.W.Frag) (H:Hp):PyData->V->Prop
 |.none,v=>v= .non
 |.bool b,v=>v= .bl b
 |.int i,v=>v= .int i
 |.str x,v=>v= .str x
 |.tuple ds,v=>∃ a vs,v= .ref a/\aT K H a vs/\vI K H ds vs
 |.list ds,v=>∃ a vs,v= .ref a/\bK K H a vs/\vI K H ds vs
 |.dict _,_=>False
def vI (K:PySem.W.Frag) (H:Hp):List PyData->List V->Prop
 |[],vs=>vs=[]
 |d :: ds,vs=>∃ v r,vs=v :: r/\fN K H d v/\vI K H ds r
end
section
variable {X:Cx}{pins:List (Addr×Obj)}{σ: St}{H:Hp}{s:Shared}
mutual
theorem fN.reads (I:aQ X pins σ H s):∀ (d:PyData) (v:V) (u:Value),fN X.K H d v->aX v u->∃ as,Reads s.heap u d as
 |.none,v,u,h,r=>by
  have h:v= .non:=h
  subst h;cases r;exact ⟨_,.none⟩
 |.bool b,v,u,h,r=>by
  have h:v= .bl b:=h
  subst h;cases r;exact ⟨_,.bool b⟩
 |.int i,v,u,h,r=>by
  have h:v= .int i:=h
  subst h;obtain ⟨t,rfl⟩:=r;exact ⟨_,.int i t⟩
 |.str x,v,u,h,r=>by
  have h:v= .str x:=h
  subst h;obtain ⟨t,rfl⟩:=r;exact ⟨_,.str x t⟩
 |.tuple ds,v,u,h,r=>by
  obtain ⟨a,vs,rfl,hs,hl⟩:=h
  cases r
  obtain ⟨its,rv,⟨o,ho,hc,n,hd⟩,_⟩:=I.tuple hs
  obtain ⟨as,ra⟩:=vI.reads I ds vs its hl rv
  exact ⟨_,.tuple ho hc hd (by simpa using ra)⟩
 |.list ds,v,u,h,r=>by
  obtain ⟨a,vs,rfl,hs,hl⟩:=h
  cases r
  obtain ⟨its,rv,pl,_⟩:=I.list hs
  obtain ⟨o,ho,hc,n,hd⟩:=pl.isList
  obtain ⟨as,ra⟩:=vI.reads I ds vs its hl rv
  exact ⟨_,.list ho hc hd (by simpa using ra)⟩
 |.dict _,v,u,h,r=>h.elim
theorem vI.reads (I:aQ X pins σ H s):∀ (ds:List PyData) (vs:List V) (us:List Value),vI X.K H ds vs->bB vs us->∃ as,ReadsAll s.heap us ds as
 |[],vs,us,h,r=>by
  have h:vs=[]:=h
  subst h;cases r;exact ⟨_,.nil⟩
 |d :: ds,vs,us,h,r=>by
  obtain ⟨v,t,rfl,hd,ht⟩:=h
  cases r with
  |cons r1 r2 =>
   obtain ⟨as,ra⟩:=fN.reads I d v _ hd r1
   obtain ⟨bs,rb⟩:=vI.reads I ds t _ ht r2
   exact ⟨_,.cons ra rb⟩
end
end
section
variable {X:Cx}
def aR8 (K:PySem.W.Frag) (neg:Bool):R2:=fun x y H Q=>∃ d e,fN K H d x/\fN K H e y/\SeqAt.shaped d=true/\SeqAt.shaped e=true/\SeqAt.noMix d e=true/\Q (.bl (if neg then !Spec.same d e else Spec.same d e)) H
theorem aH1 {k:Nat}(hr:bU k X.A):jX X (compareOp .Eq) (aR8 X.K false):=by
 intro pins s σ H x y v u Q I rx ry h
 obtain ⟨d,e,hd,he,sd,se,mx,q⟩:=h
 obtain ⟨as,ra⟩:=fN.reads I d x v hd rx
 obtain ⟨bs,rb⟩:=fN.reads I e y u he ry
 exact eq_dataH_same ra rb sd se hr.units mx ⟨.bl _,H,I,rfl,q⟩
theorem aE6 {k:Nat}(hr:bU k X.A):jX X (compareOp .NotEq) (aR8 X.K true):=by
 intro pins s σ H x y v u Q I rx ry h
 obtain ⟨d,e,hd,he,sd,se,mx,q⟩:=h
 obtain ⟨as,ra⟩:=fN.reads I d x v hd rx
 obtain ⟨bs,rb⟩:=fN.reads I e y u he ry
 exact ne_dataH_same ra rb sd se hr.units mx ⟨.bl _,H,I,rfl,q⟩
theorem vQ {K:PySem.W.Frag}{H:Hp}:∀ ns:List Int,vI K H (ns.map PyData.int) (ns.map V.int)
 |[]=>rfl
 |n :: r=>⟨_,_,rfl,rfl,vQ r⟩
theorem sW:∀ ns:List Int,PyData.canLayAll0 (ns.map PyData.int)=true
 |[]=>rfl
 |_ :: r=>by simp [PyData.canLayAll0,PyData.canLay0,sW r]
theorem mX:∀ ns:List Int,PyData.depthAll (ns.map PyData.int)=0
 |[]=>rfl
 |_ :: r=>by simp [PyData.depthAll,PyData.depth,mX r]
theorem aB5 (ns:List Int):SeqAt.shaped (.tuple (ns.map PyData.int))=true:=by
 simp [SeqAt.shaped,PyData.canLay0,PyData.depth,sW,mX]
theorem nI:∀ ns ms:List Int,SeqAt.noMixAll (ns.map PyData.int) (ms.map PyData.int)=true
 |[],[]=>rfl
 |[],_ :: _=>rfl
 |_ :: _,[]=>rfl
 |_ :: r,_ :: t=>by simp [SeqAt.noMixAll,SeqAt.noMix,nI r t]
theorem pG:∀ ns ms:List Int,Spec.sameAll (ns.map PyData.int) (ms.map PyData.int)=decide (ns=ms)
 |[],[]=>by simp [Spec.sameAll]
 |[],_ :: _=>by simp [Spec.sameAll]
 |_ :: _,[]=>by simp [Spec.sameAll]
 |a :: r,b :: t=>by
  simp only [List.map_cons,Spec.sameAll,Spec.same,pG r t]
  by_cases h:a=b <;> by_cases h':r=t <;> simp [h,h']
theorem lD:dL X (.builtin "isinstance") (fun xs H Q=>∃ x n t b,xs=[x,.ty n]/\qG X.K H x t/\PySem.W.kitOne X.K t (.type n)=some b/\Q (.bl b) H):=by
 intro pins s σ H xs us Q I r h
 obtain ⟨x,n,t,b,rfl,ty,e,q⟩:=h
 obtain ⟨u,w',rfl,ru,rw'⟩:=tV r
 cases rw'
 exact aS0 I ru ty e fun tk=>⟨.bl b,H,I.tok tk,rfl,q⟩
theorem uS (hc:autoParam (X.calm=true) Rq0._auto_1):dL X (.builtin "all") (fun xs H Q=>∃ (p:Addr) (bs:List Bool),xs=[.ref p]/\bK X.K H p (bs.map V.bl)/\Q (.bl (bs.all id)) H):=by
 intro pins s σ H xs us Q I r h
 obtain ⟨p,bs,rfl,hq,q⟩:=h
 obtain ⟨u,rfl,ru⟩:=gT r
 cases ru
 obtain ⟨its,rv,pl,hz⟩:=I.list hq
 have lp:p < s.heap.objs.size:=by
  obtain ⟨o,e,_⟩:=pl.isList
  exact bi e
 refine call_all_walk (im pl.isList ⟨s.heap.objs.size,_,_,_,_,_,fun i=>bs.getD i true,rfl,aAs (A:=X.A.in1) (I.ok.hd hc) s.heap.objs.size p (cw lp) its.toArray,⟨⟨_,aq _ rfl,rfl,rfl⟩,pl.isList.at fun o e=>af _ e⟩,?_,?_⟩)
 ·intro i v s1 Q1 E1 hv hq1
  have hi:its[i]?=some v:=by simpa using hv
  have hl:=rv.length
  rw [ae] at hl
  have hb:i < bs.length:=by
   have:=(bw.mp hi).1
   omega
  obtain ⟨u,hu,ru⟩:=rv.get (i:=i) (x:=V.bl bs[i]) (by rw [cp,ak hb];rfl)
  rw [hi] at hu
  cases hu
  cases ru
  have e:bs.getD i true=bs[i]:=by simp [List.getD,hb]
  dsimp only at hq1
  rw [e] at hq1
  exact jl hq1
 ·intro h' tk hk
  have kept:∀ b o,s.heap.get? b=some o->h'.get? b=some o:=fun b o e=>hk b o (by
   intro z
   have z:b=s.heap.objs.size:=by simpa using z
   exact absurd (bi e) (by rw [z];exact ff _)) (af _ e)
  exists .bl (bs.all id),H,I.kept kept,?_,q
  show Value.bool _=Value.bool _
  have hl:=rv.length
  rw [ae] at hl
  have e:((List.range its.toArray.size).all fun i=>bs.getD i true)=bs.all id:=by
   rw [cv, <- hl]
   clear q hq rv pl hk hz hl
   rw [jn,ug,ug]
   constructor
   ·intro h b hb
    obtain ⟨i,hi,e⟩:=ij hb
    have:=h i (sx.mpr hi)
    simp [List.getD,hi] at this
    rw [<- e];exact this
   ·intro h i hi
    have hi:=sx.mp hi
    simp [List.getD,hi]
    exact h _ (jz hi)
  rw [e]
end
section
variable {X:Cx}(K:PySem.W.Frag)
theorem bM2 (hK:autoParam (X.K=K) Rq0._auto_1):IxR X (cG1 K):=by subst hK;exact dU
theorem bE1 (hK:autoParam (X.K=K) Rq0._auto_1):IxR X (cB3 K):=by subst hK;exact aM
end
theorem dR {c A B:Prop} [Decidable c] (hc:c) (h:A):if c then A else B:=by rw [bh hc];exact h
theorem bW {c A B:Prop} [Decidable c] (hc:¬ c) (h:B):if c then A else B:=by rw [ap hc];exact h
def nE (lo:Int) (n:Nat):List Int:=(List.range n).map fun (i:Nat)=>lo+(i:Int)
theorem uN (lo:Int) (n:Nat):(nE lo n).length=n:=by simp [nE]
theorem aH6 {lo:Int}{n i:Nat}(h:i < n):(nE lo n)[i]?=some (lo+i):=by
 unfold nE
 rw [cp,List.getElem?_range h]
 rfl
section
variable {X:Cx}
theorem zO (hc:autoParam (X.calm=true) Rq0._auto_1):dL X (.builtin "any") (fun xs H Q=>∃ (p:Addr) (bs:List Bool),xs=[.ref p]/\bK X.K H p (bs.map V.bl)/\Q (.bl (bs.any id)) H):=by
 intro pins s σ H xs us Q I r h
 obtain ⟨p,bs,rfl,hq,q⟩:=h
 obtain ⟨u,rfl,ru⟩:=gT r
 cases ru
 obtain ⟨its,rv,pl,hz⟩:=I.list hq
 have lp:p < s.heap.objs.size:=by
  obtain ⟨o,e,_⟩:=pl.isList
  exact bi e
 refine call_any_walk (im pl.isList ⟨s.heap.objs.size,_,_,_,_,_,fun i=>bs.getD i false,rfl,aAs (A:=X.A.in1) (I.ok.hd hc) s.heap.objs.size p (cw lp) its.toArray,⟨⟨_,aq _ rfl,rfl,rfl⟩,pl.isList.at fun o e=>af _ e⟩,?_,?_⟩)
 ·intro i v s1 Q1 E1 hv hq1
  have hi:its[i]?=some v:=by simpa using hv
  have hl:=rv.length
  rw [ae] at hl
  have hb:i < bs.length:=by
   have:=(bw.mp hi).1
   omega
  obtain ⟨u,hu,ru⟩:=rv.get (i:=i) (x:=V.bl bs[i]) (by rw [cp,ak hb];rfl)
  rw [hi] at hu
  cases hu
  cases ru
  have e:bs.getD i false=bs[i]:=by simp [List.getD,hb]
  dsimp only at hq1
  rw [e] at hq1
  exact jl hq1
 ·intro h' tk hk
  have kept:∀ b o,s.heap.get? b=some o->h'.get? b=some o:=fun b o e=>hk b o (by
   intro z
   have z:b=s.heap.objs.size:=by simpa using z
   exact absurd (bi e) (by rw [z];exact ff _)) (af _ e)
  exists .bl (bs.any id),H,I.kept kept,?_,q
  show Value.bool _=Value.bool _
  have hl:=rv.length
  rw [ae] at hl
  have e:((List.range its.toArray.size).any fun i=>bs.getD i false)=bs.any id:=by
   rw [cv, <- hl]
   clear q hq rv pl hk hz hl
   rw [jn,fy,fy]
   constructor
   ·rintro ⟨i,hi,h⟩
    have hi:=sx.mp hi
    simp [List.getD,hi] at h
    exact ⟨_,jz hi,h⟩
   ·rintro ⟨b,hb,h⟩
    obtain ⟨i,hi,e⟩:=ij hb
    exists i,sx.mpr hi,?_
    simp [List.getD,hi]
    rw [e];exact h
  rw [e]
theorem kT {es:List Expr}{k:Nat}{t:TGs}{n:Nat}{pos:Pos}(K:PySem.W.Frag) (hc:X.calm=true) (h:PGs X es t) (hK:autoParam (X.K=K) Rq0._auto_1)
  (hn:autoParam ((assignEach es X.env).length=n) Rq0._auto_1) (hst:autoParam ((assignEach es X.env).findIdx? (·.1)=none) Rq0._auto_1):PG X (.Tuple es k pos) (cF3 K n t):=by subst hK;exact gC hc h hn hst
theorem cJ2 {k:Nat}(K:PySem.W.Frag) (hr:bU k X.A) (hK:autoParam (X.K=K) Rq0._auto_1):jX X (compareOp .Eq) (aR8 K false):=by subst hK;exact aH1 hr
end
def dP (p:Int×Int):PyData:= .tuple [.int p.1,.int p.2]
theorem aJ7:∀ ps:List (Int×Int),PyData.canLayAll0 (ps.map dP)=true
 |[]=>rfl
 |_ :: r=>by simp [dP,PyData.canLayAll0,PyData.canLay0,aJ7 r]
theorem wQ:∀ ps:List (Int×Int),PyData.depthAll (ps.map dP)<=1
 |[]=>by decide
 |_ :: r=>by
  have:=wQ r
  simp only [List.map_cons,dP,PyData.depthAll,PyData.depth]
  omega
theorem uV (ps:List (Int×Int)):SeqAt.shaped (.tuple (ps.map dP))=true:=by
 have h1:=aJ7 ps
 have h2:=wQ ps
 have h3:(PyData.tuple (ps.map dP)).depth<=64:=by
  simp only [PyData.depth]
  (first | exact db (by with_reducible assumption) (by decide +kernel) | omega)
 simp [SeqAt.shaped,PyData.canLay0,h1,h3]
def gE (i:Int):Prop:= -(2 ^ 250) < i/\i < 2 ^ 250
def cE1 (i j:Int):Prop:=gE i/\gE j
theorem gE.bits {i:Int}(h:gE i):Builtin.Int.intBits i<=2 ^ 20:=by
 have h1:i.natAbs < 2 ^ 250:=by
  have:=h.1;have:=h.2;omega
 exact cy (tj h1) (by decide)
theorem gE.log {i:Int}(h:gE i):i.natAbs.log2 < 1920:=by
 have h1:i.natAbs < 2 ^ 250:=by
  have:=h.1;have:=h.2;omega
 by_cases c:i.natAbs=0
 ·rw [c];decide
 ·exact cr ((zw c).mpr h1) (by decide)
theorem bX {X:Cx}:jX X (binaryOp .Mult) (rI cE1 fun i j=> .int (i * j)):=opI fun _ _ _ _ _ _ _ hc q=>mul_int q (IntMulOk.of_bits hc.1.bits hc.2.bits)
section
variable {X:Cx}
def cE0 (K:PySem.W.Frag):List V->Hp->VK->Prop:=fun xs H Q=>∃ (d:PyData) (p:Addr),xs=[.ref p]/\fN K H d (.ref p)/\d.showable=true/\d.hasDict=false/\d.depth<=64/\d.shown.length<=sizeLine/\Q (.str d.shown) H
theorem uG {k:Nat}(hr:bU k X.A):dL X (.builtin "repr") (cE0 X.K):=by
 intro pins s σ H xs us Q I r h
 obtain ⟨d,p,rfl,hd,hs,hh,hdp,hz,q⟩:=h
 obtain ⟨u,rfl,ru⟩:=gT r
 cases ru
 obtain ⟨as,ra⟩:=fN.reads I d (.ref p) (.ref p) hd rfl
 refine repr_of_reads' ra hs (fun z=>by rw [hh] at z;cases z) hr.gd (by have:=hr.un;omega) (fun b o e=>e) (fun h' u tk hk=>⟨.str _,H,I.kept hk,⟨_,rfl⟩,q⟩) hz
end
def kQ (a b:Int):PyData:= .tuple [.int a,.int b]
theorem aO3 {a b:Int}(ha:gE a) (hb:gE b):(kQ a b).showable=true/\(kQ a b).hasDict=false/\(kQ a b).depth<=64/\(kQ a b).shown.length<=sizeLine:=by
 exists ?_,rfl,by simp [kQ,PyData.depth,PyData.depthAll],?_
 ·simp [kQ,PyData.showable,PyData.showableAll,ha.log,hb.log]
 ·have e1:=vj ha.log
  have e2:=vj hb.log
  show (tupleText [Str.ofString (toString a),Str.ofString (toString b)]).length<=sizeLine
  have e3:=join_length_add [Str.ofString (toString a),Str.ofString (toString b)] (by simp)
  rw [piled_cons,piled_cons,piled_nil] at e3
  unfold tupleText
  rw [strLen_append,strLen_append]
  have e4:((("(": String):Str)).length=1:=rfl
  have e5:(((if [Str.ofString (toString a),Str.ofString (toString b)].length == 1 then ",)" else ")": String):Str)).length=1:=rfl
  rw [e4,e5,qz]
  omega
theorem tK {K:PySem.W.Frag}{H:Hp}{p:Addr}{a b:Int}(h:H p=some (.tup [.int a,.int b])):fN K H (kQ a b) (.ref p):=⟨p,_,rfl,aT.of h,_,_,rfl,rfl,_,_,rfl,rfl,rfl⟩
section
variable {X:Cx}{pins:List (Addr×Obj)}{σ: St}{H:Hp}{s:Shared}{h':Heap}
theorem aQ.turnedNew {T:Addr}{o:HO}{rs:List Addr}{t':Nat}(I:aQ X pins σ H s) (hf:∀ b∈rs,kS X pins H b) (k:∀ b u,b∉rs->s.heap.get? b=some u->h'.get? b=some u)
  (hp:s.heap.objs.size<=T) (new:bO X.prog X.w (aJ H T o) h' T o):aQ X pins σ (aJ H T o) { s with heap:=h',toks:=t' }:=by
 have fT:H T=none:=I.hok.fresh hp
 have nT:∀ b u,s.heap.get? b=some u->b≠T:=fun b u e z=>absurd (bi e) (by rw [z];exact vg.mpr hp)
 have nrs:∀ b u,H b=some u->b∉rs:=fun b u e z=>by rw [(hf b z).1] at e;cases e
 refine I.step (g':=s.gens) (d':=s.drawn) (ch:=rs) (fun b hb=>⟨(hf b hb).2.2.2.1,(hf b hb).2.1,(hf b hb).2.2.2.2.1,(hf b hb).2.2.2.2.2⟩) (fun b u _ _ hc e _=>k b u hc e) (fun b u _ _ hc e _=>⟨u.slots,k b u hc e⟩)
  (fun b u _ e n=>by rw [aE (nT b u e)];exact n) (fun b u hc e=>⟨u,k b u hc e⟩) (fun b xs e=>by rw [aE (aF e fT)];exact e) (fun b u v e=>by rw [aE (aF e fT)];exact e)
  (fun b ps e=>⟨#[],by rw [aE (aF e fT),e];simp⟩) (fun m hm=>?_) (fun b u e=>?_) I.bare
 ·obtain ⟨u,es,ep,hu,r⟩:=hm
  exact ⟨u,es,ep,k _ u (fun z=>(hf _ z).2.1 rfl) hu,r⟩
 ·by_cases hb:b=T
  ·subst hb
   rw [aB] at e
   cases e
   exact new
  ·rw [aE hb] at e
   refine (I.hok b u e).stay (fun c v hc q=>k c v ?_ q) (fun c q=>by rw [aE (aF q fT)];exact q) fun c xs q=>by rw [aE (aF q fT)];exact q
   rcases hc with z | z
   ·rw [z];exact nrs b u e
   ·exact nrs c _ z
theorem aQ.turnedL {rs:List Addr}{t':Nat}(I:aQ X pins σ H s) (hf:∀ b∈rs,kS X pins H b) (k:∀ b u,b∉rs->s.heap.get? b=some u->h'.get? b=some u):aQ X pins σ H { s with heap:=h',toks:=t' }:=by
 have nrs:∀ b u,H b=some u->b∉rs:=fun b u e z=>by rw [(hf b z).1] at e;cases e
 refine I.step (g':=s.gens) (d':=s.drawn) (ch:=rs) (fun b hb=>⟨(hf b hb).2.2.2.1,(hf b hb).2.1,(hf b hb).2.2.2.2.1,(hf b hb).2.2.2.2.2⟩) (fun b u _ _ hc e _=>k b u hc e) (fun b u _ _ hc e _=>⟨u.slots,k b u hc e⟩)
  (fun b u _ _ n=>n) (fun b u hc e=>⟨u,k b u hc e⟩) (fun b xs e=>e) (fun b u v e=>e) (fun b ps e=>⟨#[],by rw [e];simp⟩) (fun m hm=>?_) (fun b u e=>?_) I.bare
 ·obtain ⟨u,es,ep,hu,r⟩:=hm
  exact ⟨u,es,ep,k _ u (fun z=>(hf _ z).2.1 rfl) hu,r⟩
 ·refine (I.hok b u e).stay (fun c v hc q=>k c v ?_ q) (fun c q=>q) fun c xs q=>q
  rcases hc with z | z
  ·rw [z];exact nrs b u e
  ·exact nrs c _ z
end
section
variable {prog:Program}{w:World}{A:Around}{E:Value->Shared->Prop}{s:Shared}
end
section
variable {prog:Program}{w:World}{A:Around}{E:Value->Shared->Prop}{s:Shared}
end
section
variable {g:TG}{tc:TT}{te:TE}
end
section
variable {X:Cx}{tg:Expr}
end
theorem xY (ns:List Int):∀ j,j<=ns.length->preSum (fun i=>ns.getD i 0) j=(ns.take j).sum
 |0,_=>by simp [preSum]
 |j+1,h=>by
  have ih:=xY ns j ∅
  have e:ns[j]?=some ns[j]:=by simp [show j < ns.length by omega]
  have q:ns.take (j+1)=ns.take j++[ns[j]]:=by rw [List.take_succ,e];rfl
  rw [q,rg, <- ih]
  simp [preSum,List.getD,e]
section
variable {X:Cx}
theorem aY1 (hc:autoParam (X.calm=true) Rq0._auto_1):dL X (.builtin "sum") (fun xs H Q=>∃ (p:Addr) (ns:List Int),xs=[.ref p]/\bK X.K H p (ns.map V.int)/\Q (.int ns.sum) H):=by
 intro pins s σ H xs us Q I r h
 obtain ⟨p,ns,rfl,hq,q⟩:=h
 obtain ⟨u,rfl,ru⟩:=gT r
 cases ru
 obtain ⟨its,rv,pl,hz⟩:=I.list hq
 have lp:p < s.heap.objs.size:=by
  obtain ⟨o,e,_⟩:=pl.isList
  exact bi e
 have hl:=rv.length
 rw [ae] at hl
 have val:∀ i v,its.toArray[i]?=some v->∃ t,v=Value.int (ns.getD i 0) t:=fun i v hv=>by
  have hi:its[i]?=some v:=by simpa using hv
  have hb:i < ns.length:=by
   have:=(bw.mp hi).1
   omega
  obtain ⟨u,hu,ru⟩:=rv.get (i:=i) (x:=V.int ns[i]) (by rw [cp,ak hb];rfl)
  rw [hi] at hu
  cases hu
  obtain ⟨t,e⟩:=ru
  exact ⟨t,by rw [e];simp [List.getD,hb]⟩
 refine call_sum_walkG (im pl.isList ⟨s.heap.objs.size,_,_,_,_,_,fun i=>ns.getD i 0,rfl,aAs (A:=X.A.in1) (I.ok.hd hc) s.heap.objs.size p (cw lp) its.toArray,⟨⟨_,aq _ rfl,rfl,rfl⟩,pl.isList.at fun o e=>af _ e⟩,?_,val,?_⟩)
 ·intro b hb
  rw [ip]
  rcases bo.mp hb with z | z
  ·rw [z];exact dy _
  ·have z:b=p:=by simpa using z
   rw [z];exact on lp
 ·intro h' tk t' hk
  have kept:∀ b o,s.heap.get? b=some o->h'.get? b=some o:=fun b o e=>hk b o (by
   intro z
   have z:b=s.heap.objs.size:=by simpa using z
   exact absurd (bi e) (by rw [z];exact ff _)) (af _ e)
  exists .int ns.sum,H,I.kept kept,⟨t',?_⟩,q
  rw [cv, <- hl,xY ns _ (ao _),be]
end
theorem oN:∀ {us:List Value}{ns:List Int},IntsAre us ns->bB (ns.map V.int) us
 |_,_,.nil=> .nil
 |_,_,.cons n t r=> .cons ⟨t,rfl⟩ (oN r)
theorem aH4 {X:Cx}:dL X (.builtin "sorted") (fun xs H Q=>∃ (p:Addr) (ns:List Int),xs=[.ref p]/\bK X.K H p (ns.map V.int)/\ns.length < 64 /\
  ∀ ns':List Int,ns'.Perm ns->ns'.Pairwise (· <= ·)->∀ l,H l=none->Q (.ref l) (aJ H l (.lst (ns'.map V.int)))):=by
 intro pins s σ H xs us Q I r h
 obtain ⟨p,ns,rfl,hq,hz,q⟩:=h
 obtain ⟨u,rfl,ru⟩:=gT r
 cases ru
 obtain ⟨its,rv,pl,_⟩:=I.list hq
 have len:=rv.length
 rw [ae] at len
 refine sorted_ints pl.isList (kA rv) ∅ fun out ns' a1 a2 a3=>?_
 obtain ⟨e,he⟩:=sortedAll_at s.heap its out
 have le:s.heap.objs.size<=s.heap.objs.size+1:=zf _
 exists .ref (s.heap.objs.size+1),_,I.laid (t':=s.toks) (o:= .lst (ns'.map V.int)) (fun b o z=>sortedAll_old z) le ?_,rfl,q ns' a2 a3 _ (I.hok.fresh le)
 exists ?_,out.toList,e,oN a1,by rw [vi];exact he
 rw [ae,a2.length_eq]
 exact iz (aH ∅)
theorem aQ.freeze {X:Cx}{pins:List (Addr×Obj)}{σ: St}{H:Hp}{s:Shared}{d:Addr}{o:Obj}{kvs:List (Key×V)}(I:aQ X pins σ H s) (h:H d=some (.dK kvs)) (ho:s.heap.get? d=some o) :
  aQ X pins σ (aJ H d (.frz o (.dK kvs))) s:=by
 have nd:∀ b u,H b=some u->(∀ z,u≠ .dK z)->b≠d:=fun b u e hu z=>by
  rw [z,h] at e
  exact hu _ (dm e).symm
 refine I.step (g':=s.gens) (d':=s.drawn) (t':=s.toks) (h':=s.heap) (ch:=[]) (fun _ z=>nomatch z) (fun b u _ _ _ e _=>e) (fun b u _ _ _ e _=>⟨u.slots,e⟩) (fun b u _ e n=>by rw [aE (fun z=>by rw [z,h] at n;cases n)];exact n)
  (fun b u _ e=>⟨u,e⟩) (fun b xs e=>by rw [aE (nd b _ e (by intro z c;cases c))];exact e) (fun b u v e=>by rw [aE (nd b _ e (by intro z c;cases c))];exact e)
  (fun b ps e=>⟨#[],by rw [aE (nd b _ e (by intro z c;cases c)),e];simp⟩) (fun m hm=>hm) (fun b u e=>?_) I.bare
 by_cases hb:b=d
 ·subst hb
  rw [aB] at e
  cases e
  exact ⟨ho,I.hok b _ h⟩
 ·rw [aE hb] at e
  exact (I.hok b u e).stay (fun c v _ q=>q) (fun c q=>by rw [aE (nd c _ q (by intro z w;cases w))];exact q) fun c xs q=>by rw [aE (nd c _ q (by intro z w;cases w))];exact q
theorem aG9 {κ: Type}{kvs:List (κ×V)}{vs:List (κ×Value)}{i:Nat}{k:κ}{v:V}(h:KV kvs vs) (e:kvs[i]?=some (k,v)):∃ u,vs[i]?=some (k,u)/\aX v u:=by
 unfold KV at h
 induction h generalizing i with
 |nil=>simp at e
 |cons r t ih=>
  cases i with
  |zero=>
   simp at e
   subst e
   obtain ⟨r1,r2⟩:=r
   exact ⟨_,by simp;exact wo r1.symm rfl,r2⟩
  |succ i=>
   obtain ⟨u,e1,e2⟩:=ih (i:=i) (by simpa using e)
   exact ⟨u,by simpa using e1,e2⟩
theorem bK8 {k:Key}{u:Value}(h:fU k u=true):aX (kV k) u:=by
 rcases bG h with ⟨i,t,rfl,rfl⟩ | ⟨x,t,rfl,rfl⟩
 ·exact ⟨t,rfl⟩
 ·exact ⟨t,rfl⟩
def Itd (d:Addr) (o:Obj) (kvs:List (Key×V)):It :=
 ⟨fun i H=>i < kvs.length/\H d=some (.frz o (.dK kvs)),fun i H x H'=>H'=H/\∃ k v,kvs[i]?=some (k,v)/\x=kV k,fun i H=>kvs.length<=i/\H d=some (.frz o (.dK kvs))⟩
theorem bC2 {X:Cx}{pins:List (Addr×Obj)}{σ: St}{H:Hp}{s:Shared}{d:Addr}{o:Obj}{kvs:List (Key×V)}{es:Array DictEntry}{ep:Nat}(I:aQ X pins σ H s) (ho:o.data= .dict es ep) (h:H d=some (.frz o (.dK kvs))) :
  ∃ vs,KV kvs vs/\s.heap.DictAt (bL X.prog X.w) d vs ep/\(d == sysModules)=false:=by
 obtain ⟨e,z,ns,vs,rel,o',es',ep',h1,h2,h3,h4,h5,h6⟩:=(show bO X.prog X.w H s.heap d (.frz o (.dK kvs)) from I.hok d _ h)
 rw [e] at h1
 cases h1
 rw [ho] at h3
 cases h3
 exact ⟨vs,rel,⟨o,es,e,h2,ho,h4,h5,h6⟩,ns⟩
theorem aQ4 {P:Program}{w:World}{K:PySem.W.Frag}{tg:Expr}(d it:Addr) (o:Obj) (kvs:List (Key×V)) {es:Array DictEntry}{ep:Nat}(ho:o.data= .dict es ep) :
  uF P w K tg (Itd d o kvs) [it] it (fun i h=>i<=kvs.length/\h.IsKeyIter it d i kvs.length ep) where
 mem:=by simp
 obj:=fun i h st b hb=>by
  have e:b=it:=by simpa using hb
  subst e
  obtain ⟨o,e,c,q⟩:=st.2
  exact ⟨o,e,fun v z=>by rw [q] at z;cases z⟩
 keep:=fun i h h' st k=>⟨st.1,st.2.at fun o e=>k it (by simp) o e⟩
 item:=by
  intro X hP hw hK hc i pins s σ H E I hf st hg
  subst hP hw hK
  obtain ⟨hi,hd⟩:=hg
  obtain ⟨f0,f1,f2,f3,f4,f5⟩:=hf it (by simp)
  obtain ⟨vs,rel,da,ns⟩:=bC2 I ho hd
  have hl:kvs.length=vs.length:=gj rel
  obtain ⟨u,hu,_⟩:=aG9 (i:=i) (k:=kvs[i].1) (v:=kvs[i].2) rel (by simp [hi])
  have st2:=st.2
  rw [hl] at st2
  refine wpAny_pyNext_dict_item st2 da hu fun key h' hk st' sb=>?_
  have I1:aQ X pins σ H { s with heap:=h' }:=I.turned (t':=s.toks) (fun b o hb e=>(sb.2 b hb).trans e) f0 f1 f3 f4 f5
  obtain ⟨o2,e2,c2,d2⟩:=id st'
  rw [<- hl] at st'
  exact ⟨key,rfl,go_of (s:={ s with heap:=h' }) e2 c2 d2 (by decide) ⟨kV kvs[i].1,H,I1,bK8 hk,⟨rfl,kvs[i].1,kvs[i].2,by simp [hi],rfl⟩,⟨hi,st'⟩,fun b hb=>(hf b hb).1⟩⟩
 done:=by
  intro X hP hw hK hc i pins s σ H E I hf st hg
  subst hP hw hK
  obtain ⟨hi,hd⟩:=hg
  obtain ⟨f0,f1,f2,f3,f4,f5⟩:=hf it (by simp)
  obtain ⟨vs,rel,da,ns⟩:=bC2 I ho hd
  have hl:kvs.length=vs.length:=gj rel
  have st2:=st.2
  rw [hl] at st2
  exact wpAny_pyNext_dict_end (I.ok.hd hc) st2 da (by simp;omega) fun h' eb=>⟨rfl,I.turned (t':=s.toks) (fun b o hb e=>eb b o hb e) f0 f1 f3 f4 f5⟩
 self:=fun _ _ _ _ _ st h=>aAt st.2 h
def bN4 (tl:TE):TI:=fun σ H R=>tl σ H fun x H1=>∃ d kvs,x= .ref d/\H1 d=some (.dK kvs)/\∀ o,R (Itd d o kvs) (aJ H1 d (.frz o (.dK kvs)))
theorem bF8 {X:Cx}{tg l:Expr}{tl:TE}(hl:PE X l tl):PI X tg l (bN4 tl):=by
 intro pins s σ H R I h
 refine cO (hl pins s σ H _ I h) ?_;rintro v s1 ⟨x,H1,I1,r1,q1⟩
 obtain ⟨d,kvs,e,hd,q⟩:=q1
 subst e
 cases r1
 obtain ⟨z,ns,vs,rel,o,es,ep,h1,h2,h3,h4,h5,h6⟩:=aA5 I1.hok hd
 have hl:kvs.length=vs.length:=gj rel
 have I2:=I1.freeze hd h1
 refine wpAny_pyIter_dict (knd:=bL X.prog X.w) ns ⟨o,es,h1,h2,h3,h4,h5,h6⟩ ?_
 have f:(aJ H1 d (.frz o (.dK kvs))) s1.heap.objs.size=none:=I2.hok.fresh (ao _)
 exists s1.heap.objs.size,[s1.heap.objs.size],_,_,_,rfl,I2.kept (t':=s1.toks) fun b o e=>af _ e,aQ4 d _ o kvs h3,⟨df _,⟨_,aq _ rfl,rfl,by rw [hl];rfl⟩⟩,fun b hb=>?_,q o
 have e:b=s1.heap.objs.size:=by simpa using hb
 subst e
 exact I2.fpOk (ao _) f
theorem aN5 {d:Addr}{o:Obj}{kvs:List (Key×V)}{g:TG}{tc:TT}{te:TE}{Kf:List V->Hp->Prop}{σ0:St}{H1:Hp}(Pv:Nat->List V->St->Hp->Prop) (hz:kvs.length < sizeLine) (h0:Pv 0 [] σ0 H1) (hb:∀ i zs σ H,Pv i zs σ H->zs.length<=i)
  (hl:∀ i zs σ H,i<=kvs.length->Pv i zs σ H->H d=some (.frz o (.dK kvs)))
  (hs:∀ i k v zs σ H,kvs[i]?=some (k,v)->Pv i zs σ H->g (kV k) σ H fun σ2 H2=>tc σ2 H2 fun b H3=>if b=true then te σ2 H3 fun y H4=>Pv (i+1) (zs++[y]) σ2 H4 else Pv (i+1) zs σ2 H3)
  (hd:∀ zs σ H,Pv kvs.length zs σ H->Kf zs H):lM (Itd d o kvs) g tc te Kf σ0 H1:=by
 exists fun i m zs σ H=>m=kvs.length - i/\i<=kvs.length/\Pv i zs σ H,⟨kvs.length,by simp,df _,h0⟩,?_
 rintro i m zs σ H ⟨rfl,hi,p⟩
 have q1:=hl i zs σ H hi p
 exists db (hb _ _ _ _ p) (db hi hz),?_
 by_cases hlt:i < kvs.length
 ·refine .inr ⟨⟨hlt,q1⟩,Pv (i+1),fun zs' σ' H' p'=>⟨kvs.length - (i+1),gk hlt (dy i),rfl,hlt,p'⟩,fun x H' y=>?_⟩
  obtain ⟨rfl,k,v,e1,rfl⟩:=y
  exact hs i k v zs σ _ e1 p
 ·have e:i=kvs.length:=∅
  subst e
  exact .inl ⟨⟨ao _,q1⟩,hd zs σ H p⟩
section
variable {X:Cx}
variable {g:TG}{tc:TT}{te:TE}
end
open AutoSeq1 (wpAny_loadPart')
section
variable {prog:Program}{w:World}{A:Around}{E:Value->Shared->Prop}{s:Shared}
end
def cC2 (i j:Int):Prop:=0 < j/\j < 2 ^ 200 * 2 ^ 200
theorem oB {X:Cx}:jX X (binaryOp .FloorDiv) (rI cC2 fun i j=> .int (i / j)):=opI fun i j _ _ _ _ _ hc q=>by
 obtain ⟨h0,h1⟩:=hc
 refine aBt (by (first | exact Int.ne_of_gt (by with_reducible assumption) | omega)) ?_ (.inl (sj ?_))
 ·rw [qu i (by (first | exact qk (by with_reducible assumption) | omega))];exact q
 ·have h2:j.natAbs < 2 ^ 200 * 2 ^ 200:=∅
  rw [<- Nat.pow_add] at h2
  have h3:j.natAbs≠0:=∅
  have h4:j.natAbs.log2 < 200+200:=(zw h3).mpr h2
  exact cr h4 (by decide)
open PySem
theorem lay {H:Hp}{l:Addr}(h:H l=none) (o:HO):∃ H2,aJ H l o=H2/\aN H H2/\H2 l=some o:=⟨_,rfl,aA h o,aB⟩
theorem aV5:1<=sizeLine:=by decide
theorem cT:2<=sizeLine:=by decide
end L2
namespace Mine
open PySem L2
def gI (a b:Int):Int:=(Nat.gcd a.toNat b.toNat:Nat)
def gD (a b:Int):Int:=a / gI a b
def eQ (a b:Int):Int:=b / gI a b
theorem tD {a b:Int}(hb:1<=b):0 < gI a b:=by
 have:0 < Nat.gcd a.toNat b.toNat:=Nat.gcd_pos_of_pos_right _ ∅;unfold gI;omega
theorem bQ4 {a b c:Int}(ha:0<=a) (hb:0<=b) (hc:0<=c):gI (c * a) (c * b)=c * gI a b:=by
 obtain ⟨x,rfl⟩:=fj ha;obtain ⟨y,rfl⟩:=fj hb;obtain ⟨z,rfl⟩:=fj hc;unfold gI;rw [<- vm, <- vm,dw,dw,dw,dw,Nat.gcd_mul_left,vm]
theorem aK2 {a b c:Int}(ha:0<=a) (hb:1<=b) (hc:1<=c):gD (c * a) (c * b)=gD a b/\eQ (c * a) (c * b)=eQ a b:=by
 unfold gD eQ;rw [bQ4 ha ∅ ∅,yv _ _ ∅,yv _ _ ∅];exact ⟨rfl,rfl⟩
theorem bD7 {a b c d:Int}(ha:0<=a) (hb:1<=b) (hc:0<=c) (hd:1<=d) (h:a * d=c * b):gD a b=gD c d/\eQ a b=eQ c d:=by
 have e1:=aK2 ha hb hd;have e2:=aK2 hc hd hb;have q1:d * a=b * c:=by rw [sk d a,h,sk]
 have q2:d * b=b * d:=sk _ _;rw [q1,q2] at e1;exact ⟨e1.1.symm.trans e2.1,e1.2.symm.trans e2.2⟩
theorem aK9 {a b:Int}(ha:0<=a):gI a b ∣ a:=by
 obtain ⟨x,rfl⟩:=fj ha;unfold gI;rw [dw];exact iw.mpr (Nat.gcd_dvd_left _ _)
theorem rO {a b:Int}(hb:0<=b):gI a b ∣ b:=by
 obtain ⟨x,rfl⟩:=fj hb;unfold gI;rw [dw];exact iw.mpr (Nat.gcd_dvd_right _ _)
theorem jP {a b:Int}(ha:0<=a) (hb:1<=b):gD a b * b=a * eQ a b:=by
 have h1:=re (aK9 (b:=b) ha);have h2:=re (rO (a:=a) (b:=b) ∅);unfold gD eQ;generalize a / gI a b=x at h1 ⊢;generalize b / gI a b=y at h2 ⊢;rw [<- h1, <- h2];generalize gI (x * gI a b) (y * gI a b)=g
 grind
theorem dS {a b:Int}(ha:0<=a):0<=gD a b:=rh ha (by unfold gI;omega)
theorem cX {a b:Int}(hb:1<=b):1<=eQ a b:=by
 have h2:=re (rO (a:=a) (b:=b) ∅);have g:=tD (a:=a) hb;unfold eQ;generalize b / gI a b=y at h2 ⊢
 by_cases z:0 < y
 ·omega
 ·have:=dt (show 0<= -y by omega) (qk g);rw [Int.neg_mul] at this;omega
theorem xZ {a b:Int}(ha:0<=a) (hb:1<=b):gD a b<=a:=yh _ ha
theorem aJ9 {a b:Int}(hb:1<=b):eQ a b<=b:=yh _ ∅
theorem bM1 {a b:Int}(ha:0<=a) (hb:1<=b):gD (gD a b) (eQ a b)=gD a b/\eQ (gD a b) (eQ a b)=eQ a b:=by
 have:=bD7 (dS (b:=b) ha) (cX (a:=a) hb) ha hb (by rw [jP ha hb]);exact this
def shN (p q:Int) (n:Nat):Int:=(q - p) * p ^ n
def shD (p q:Int) (n:Nat):Int:=(q+p) * q ^ n
def tlN (p q:Int) (n:Nat):Int:=q * p ^ n
def lN (p q k:Int):Int:=if k < 1 - k then shD p q (1 - k).toNat - tlN p q (1 - k).toNat else tlN p q k.toNat
theorem aB8 {x y:Int}(hx:0<=x) (hy:0 < y):gI y (x % y)=gI x y:=by
 obtain ⟨m,rfl⟩:=fj hx;obtain ⟨n,rfl⟩:=fj (qk hy);unfold gI;rw [<- Int.natCast_emod,dw,dw,dw,Nat.gcd_comm m n,Nat.gcd_rec n m,Nat.gcd_comm]
theorem aL5 {x:Int}(hx:0<=x):gI x 0=x:=by
 unfold gI;simp;omega
theorem bO7 {a b:Int}(hb:1<=b):gI a b<=b:=by
 have:Nat.gcd a.toNat b.toNat<=b.toNat:=Nat.gcd_le_right _ ∅;unfold gI;omega
theorem gH {a b:Int}{m n:Nat}(a0:0<=a) (a1:a < 2 ^ m) (b0:0<=b) (b1:b < 2 ^ n):0<=a * b/\a * b < 2 ^ (m+n):=by
 exists dt a0 b0,?_;rw [Int.pow_add];have hp:(0:Int) < 2 ^ n:=Int.pow_pos (by decide);have h1:a * b<=a * 2 ^ n:=ii (qk b1) a0;have h2:a * 2 ^ n < 2 ^ m * 2 ^ n:=jo a1 hp;omega
def bP (H:Hp) (p:Addr) (a b:Int):Prop:=H p=some (.tup [.int a,.int b])
theorem tO (a b:Int):yJ [V.int a,V.int b] 0=some (.int a):=rfl
theorem mS (a b:Int):yJ [V.int a,V.int b] 1=some (.int b):=rfl
def eJ (a b:Int):List V:=[.int (gD a b),.int (eQ a b)]
def jY (a:Int):Prop:=0<=a/\a < 2 ^ 180
theorem jY.below {a:Int}(h:jY a):gE a:=⟨by have:=h.1;omega,by have:=h.2;omega⟩
theorem bY9 {a b:Int}(ha:jY a) (hb:jY b) (h1:1<=b):jY (gD a b)/\jY (eQ a b):=by
 have q1:=dS (b:=b) ha.1;have q2:=cX (a:=a) h1;have q3:=xZ ha.1 h1;have q4:=aJ9 (a:=a) h1;have:=ha.2;have:=hb.2;exact ⟨⟨q1,∅⟩,⟨∅,∅⟩⟩
theorem bG8 {H H':Hp}{d l p:Addr}{xs:List V}(D:eZ H d l) (o:dM d l H H') (h:H p=some (.tup xs)):H' p=some (.tup xs):=by
 obtain ⟨sd,n,ls,D⟩:=D;exact o _ _ h (bN h D.dc (by intro z;cases z)) (bN h D.lc (by intro z;cases z))
def spGcd:Sp:=fun vs H Q _=>∃ a b:Int,vs=[.int a,.int b]/\0<=a/\0<=b/\Q (.int (gI a b)) H
def spLow:Sp:=fun vs H Q _=>∃ a b:Int,vs=[.int a,.int b]/\0<=a/\1<=b/\b < 2 ^ 200 * 2 ^ 200/\∀ p,H p=none->Q (.ref p) (aJ H p (.tup (eJ a b)))
def spTimes:Sp:=fun vs H Q _=>∃ (p q:Addr) (a b c d:Int),vs=[.ref p,.ref q]/\bP H p a b/\bP H q c d/\jY a/\jY b/\jY c/\jY d/\1<=b/\1<=d/\∀ r,H r=none->Q (.ref r) (aJ H r (.tup (eJ (a * c) (b * d))))
def spMinus:Sp:=fun vs H Q _=>∃ (p q:Addr) (a b c d:Int),vs=[.ref p,.ref q]/\bP H p a b/\bP H q c d/\jY a/\jY b/\jY c/\jY d/\1<=b/\1<=d/\c * b<=a * d/\∀ r,H r=none->Q (.ref r) (aJ H r (.tup (eJ (a * d - c * b) (b * d))))
def aK6 (K:W.Frag):Sp:=fun vs H Q _=>∃ (a:Addr) (ns:List Int),vs=[.ref a]/\bK K H a (ns.map V.int)/\ns.length<=63/\∀ H',Q (.bl true) H'
def bC {α: Type}(R:V->α->Prop):List V->List α->Prop
 |[],[]=>True
 |v :: vs,a :: as=>R v a/\bC R vs as
 |_,_=>False
theorem bC.mono {α: Type}{R R':V->α->Prop}(h:∀ v a,R v a->R' v a):∀ {vs:List V}{as:List α},bC R vs as->bC R' vs as
 |[],[],_=>trivial
 |_ :: _,_ :: _,⟨e,r⟩=>⟨h _ _ e,bC.mono h r⟩
 |[],_ :: _,z=>z.elim
 |_ :: _,[],z=>z.elim
theorem bC.append {α: Type}{R:V->α->Prop}:∀ {vs ws:List V}{as bs:List α},bC R vs as->bC R ws bs->bC R (vs++ws) (as++bs)
 |[],_,[],_,_,r=>r
 |_ :: _,_,_ :: _,_,⟨e,r⟩,r2=>⟨e,bC.append r r2⟩
 |[],_,_ :: _,_,z,_=>z.elim
 |_ :: _,_,[],_,z,_=>z.elim
theorem bC.length {α: Type}{R:V->α->Prop}:∀ {vs:List V}{as:List α},bC R vs as->vs.length=as.length
 |[],[],_=>rfl
 |_ :: _,_ :: _,⟨_,r⟩=>by simp [bC.length r]
 |[],_ :: _,z=>z.elim
 |_ :: _,[],z=>z.elim
theorem bC.rep {α: Type}{R:V->α->Prop}{K:W.Frag}{H:Hp}{f:α->PyData}(h:∀ v a,R v a->fN K H (f a) v):∀ {vs:List V}{as:List α},bC R vs as->vI K H (as.map f) vs
 |[],[],_=>rfl
 |_ :: _,_ :: _,⟨e,r⟩=>⟨_,_,rfl,h _ _ e,bC.rep h r⟩
 |[],_ :: _,z=>z.elim
 |_ :: _,[],z=>z.elim
def TS (H H':Hp):Prop:=∀ a xs,H a=some (.tup xs)->H' a=some (.tup xs)
theorem TS.of {H H':Hp}(s:aN H H'):TS H H':=fun _ _ e=>s _ _ e
theorem TS.trans {H H1 H2:Hp}(a:TS H H1) (b:TS H1 H2):TS H H2:=fun c o h=>b c o (a c o h)
theorem TS.lst {H:Hp}{l:Addr}{xs ys:List V}(h:H l=some (.lst xs)):TS H (aJ H l (.lst ys)):=fun a o e=>by
 rw [aE (bN e h (by intro z;cases z))];exact e
theorem TS.out {H H':Hp}{d l:Addr}(D:eZ H d l) (o:dM d l H H'):TS H H':=fun p xs h=>bG8 D o h
theorem aZ7 {H H1:Hp}{l:Addr}{ys:List V}(s:aN H H1) (h:H l=none):aN H (aJ H1 l (.lst ys)):=fun b o e=>by
 rw [aE (aF e h)];exact s b o e
theorem aO {α: Type}{l:List α}{i:Nat}{x:α}(h:l[i]?=some x):l.take (i+1)=l.take i++[x]:=by
 rw [List.take_succ,h];rfl
def eN (p q lo hi n y:Int):Int:=if y=lo\/y=hi then tlN p q (y - n).natAbs else shN p q (y - n).natAbs
def eD (p q n y:Int):Int:=shD p q (y - n).natAbs
structure uM (lo hi:Int):Prop where
 a:0<=lo
 b:lo<=hi
 c:hi<=9
def cK8:List Str:=["kinds","ladder","flat","choose","first","let","tell","when","else","times","end","of"]
structure dW (H:Hp) (d l ls:Addr) (ts:List V):Prop where
 deal:eZ H d l
 ne:ls≠l
 lst:H ls=some (.lst ts)
theorem dW.new {H:Hp}{d l ls:Addr}(D:eZ H d l) (h:H ls=none):dW (aJ H ls (.lst [])) d l ls []:=by
 obtain ⟨sd,n,l',q⟩:=id D;exact ⟨D.same (aA h _),(aF q.lc h).symm,aB⟩
theorem dW.out {H H':Hp}{d l ls:Addr}{ts:List V}(S:dW H d l ls ts) (D:eZ H' d l) (o:dM d l H H'):dW H' d l ls ts:=by
 exists D,S.ne,?_;obtain ⟨sd,n,l',q⟩:=S.deal;exact o _ _ S.lst (bN S.lst q.dc (by intro z;cases z)) S.ne
theorem dW.same {H H':Hp}{d l ls:Addr}{ts:List V}(S:dW H d l ls ts) (s:aN H H'):dW H' d l ls ts:=⟨S.deal.same s,S.ne,s _ _ S.lst⟩
theorem dW.app {H:Hp}{d l ls:Addr}{ts:List V}(S:dW H d l ls ts) (us:List V):dW (aJ H ls (.lst us)) d l ls us:=by
 exists ?_,S.ne,aB;obtain ⟨sd,n,l',q⟩:=S.deal;exact ⟨sd,n,l',⟨by rw [aE (bN q.dc S.lst (by intro z;cases z))];exact q.dc,by rw [aE S.ne.symm];exact q.lc,q.s0,q.s1,q.n0,q.l0⟩⟩
def kW (u:Int×Int):Prop:=jY u.1/\jY u.2/\1<=u.2
def jI (u e:Int×Int):Int×Int:=(gD (u.1 * e.2+e.1 * u.2) (u.2 * e.2),eQ (u.1 * e.2+e.1 * u.2) (u.2 * e.2))
theorem vS:∀ {l:List Int},l.Pairwise (· <= ·)->l.Nodup->l.Pairwise (· < ·)
 |[],_,_=>xo
 |a :: r,h,n=>by
  obtain ⟨h1,h2⟩:=aBu.mp h;obtain ⟨n1,n2⟩:=fh.mp n;refine aBu.mpr ⟨fun b hb=>?_,vS h2 n2⟩;have:=h1 b hb;have:a≠b:=fun z=>n1 (by rw [z];exact hb)
  omega
def spAdd:Sp:=fun vs H Q _=>∃ (p q:Addr) (u e:Int×Int),vs=[.ref p,.ref q]/\bP H p u.1 u.2/\bP H q e.1 e.2/\kW u/\kW e/\∀ r,H r=none->Q (.ref r) (aJ H r (.tup [.int (jI u e).1,.int (jI u e).2]))
def qJ:Int×Int->List (Int×Int)->Prop
 |_,[]=>True
 |u,f :: r=>kW u/\kW f/\qJ (jI u f) r
theorem zH:∀ {fs:List (Int×Int)}{u:Int×Int}{i:Nat}{f:Int×Int},qJ u fs->fs[i]?=some f->kW ((fs.take i).foldl jI u)/\kW f
 |[],_,_,_,_,h=>by simp at h
 |a :: r,u,0,f,⟨s1,s2,_⟩,h=>by
  have q:a=f:=by simpa using h
  subst q;exact ⟨s1,s2⟩
 |a :: r,u,i+1,f,⟨_,_,s3⟩,h=>by
  have:=zH (i:=i) s3 (by simpa using h)
  simpa using this
theorem pH {S P:Int}(hS:0<=S) (h1:S < 2 ^ 180) (hP:1<=P) (h2:P < 2 ^ 180):kW (gD S P,eQ S P):=by
 have l:=bY9 (a:=S) (b:=P) ⟨hS,h1⟩ ⟨by (first | exact pi (b:=1) (by decide +kernel) (by with_reducible assumption) | omega),h2⟩ hP;exact ⟨l.1,l.2,cX hP⟩
def FrR (H:Hp) (v:V) (f:Int×Int):Prop:=∃ q,v= .ref q/\bP H q f.1 f.2
theorem FrR.ts {H H':Hp}{v:V}{f:Int×Int}(t:TS H H') (h:FrR H v f):FrR H' v f:=by obtain ⟨a,e,q⟩:=h;exact ⟨a,e,t _ _ q⟩
def spCome:Sp:=fun vs H Q _=>∃ l us fs,vs=[.ref l]/\H l=some (.lst us)/\bC (FrR H) us fs/\qJ (0,1) fs/\∀ H' q,aN H H'->bP H' q (fs.foldl jI (0,1)).1 (fs.foldl jI (0,1)).2->Q (.ref q) H'
theorem bC.at {α: Type}{R:V->α->Prop}:∀ {vs:List V}{as:List α}{i:Nat}{v:V},bC R vs as->vs[i]?=some v->∃ a,as[i]?=some a/\R v a
 |[],[],_,_,_,h=>by simp at h
 |v :: vs,a :: as,0,w,⟨h1,_⟩,h=>by
  have e:v=w:=by simpa using h
  subst e;exact ⟨a,by simp,h1⟩
 |v :: vs,a :: as,i+1,w,⟨_,h2⟩,h=>by
  obtain ⟨b,hb,r⟩:=bC.at (i:=i) h2 (by simpa using h);exact ⟨b,by simpa using hb,r⟩
theorem aL2 (g:Int->Int) (lo:Int) {m j:Nat}(hj:j < m):(((nE lo m).map g).map V.int).set j (.int (g (lo+j)+1))=((nE lo m).map fun y=>if y=lo+j then g y+1 else g y).map V.int:=by
 apply List.ext_getElem?
 intro i;rw [List.getElem?_set]
 by_cases hi:i < m
 ·simp only [List.getElem?_map,aH6 hi,Option.map_some,List.length_map,uN]
  by_cases c:j=i
  ·subst c;simp [hj]
  ·have:¬ (lo+(i:Int)=lo+(j:Int)):=∅
   simp [c,this]
 ·have e0:(nE lo m)[i]?=none:=um (by rw [uN];omega);have c:¬ j=i:=∅
  rw [ap c];simp only [List.getElem?_map,e0,Option.map_none]
theorem oO {S P:Int}(hS:1<=S) (hP:1<=P):1<=gD S P:=by
 have r:=jP (a:=S) (by (first | exact pi (b:=1) (by decide +kernel) (by with_reducible assumption) | omega)) hP;have n2:=cX (a:=S) hP;have a:=dS (a:=S) (b:=P) (by (first | exact pi (b:=1) (by decide +kernel) (by with_reducible assumption) | omega))
 by_cases z:gD S P=0
 ·rw [z,Int.zero_mul] at r;have:=mq (show 0 < S by (first | exact qa (b:=1) (by decide +kernel) (by with_reducible assumption) | omega)) (show 0 < eQ S P by (first | exact qa (b:=1) (by decide +kernel) (by with_reducible assumption) | omega));omega
 ·omega
def aK (c w:Int):Int×Int:=(gD c w,eQ c w)
theorem fS {a b c d:Int}(ha:0<=a) (hb:1<=b) (hc:0<=c) (hd:1<=d) (h:a * d=c * b):aK a b=aK c d:=by
 have e:=bD7 ha hb hc hd h;unfold aK;rw [e.1,e.2]
theorem dO {w:Int}(h:1<=w):aK 0 w=(0,1):=by
 have e:=fS (a:=0) (b:=w) (c:=0) (d:=1) ∅ h (by decide) (by decide) ∅;rw [e]
 decide
theorem eS {a b w:Int}(ha:0<=a) (hb:0<=b) (hw:1<=w):jI (aK a w) (aK b w)=aK (a+b) w:=by
 have r1:=jP ha hw;have r2:=jP hb hw;have n1:=dS (b:=w) ha;have n2:=dS (b:=w) hb;have p1:=cX (a:=a) hw;have p2:=cX (a:=b) hw;have q1:=dt n1 (show 0<=eQ b w by (first | exact pi (b:=1) (by decide +kernel) (by with_reducible assumption) | omega));have q2:=dt n2 (show 0<=eQ a w by (first | exact pi (b:=1) (by decide +kernel) (by with_reducible assumption) | omega));have q3:=mq (show 0 < eQ a w by (first | exact qa (b:=1) (by decide +kernel) (by with_reducible assumption) | omega)) (show 0 < eQ b w by (first | exact qa (b:=1) (by decide +kernel) (by with_reducible assumption) | omega));show aK (gD a w * eQ b w+gD b w * eQ a w) (eQ a w * eQ b w)=_;refine fS ∅ (by (first | exact Int.add_one_le_of_lt (a:=0) (by with_reducible assumption) | omega)) ∅ hw ?_;generalize gD a w=x at r1 ⊢;generalize eQ a w=y at r1 ⊢
 generalize gD b w=z at r2 ⊢;generalize eQ b w=v at r2 ⊢
 grind
end Mine
namespace L2
open PySem PySem.Spec PyProof.Rows
def hU (n:Nat) (i:Int):Prop:=i.natAbs < 2 ^ n
def cB7 (i j:Int):Prop:=∃ m n,hU m i/\hU n j/\m<=100000/\n<=100000
theorem aJ6 {X:Cx}:jX X (binaryOp .Mult) (rI cB7 fun i j=> .int (i * j)):=opI fun _ _ _ _ _ _ _ hc q=>by
 obtain ⟨m,n,a,b,hm,hn⟩:=hc;exact mul_int q (IntMulOk.of_bits (cy (tj a) (cy hm (by decide))) (cy (tj b) (cy hn (by decide))))
def cD1 (i j:Int):Prop:=0 < j/\∃ n,hU n j/\n<=8990
theorem aA2 {X:Cx}:jX X (binaryOp .FloorDiv) (rI cD1 fun i j=> .int (i / j)):=opI fun i j _ _ _ _ _ hc q=>by
 obtain ⟨h0,n,h1,hn⟩:=hc;refine aBt ∅ ?_ (.inl (sj ?_))
 ·rw [qu i ∅];exact q
 ·have h3:j.natAbs≠0:=∅
  exact cr ((zw h3).mpr h1) (cy hn (by decide))
theorem bG5:typeLookup (.type "tuple") "keys"=pure none:=by rw [vh,qj];kernel_rfl
section
variable {prog:Program}{w:World}{A:Around}{E:Value->Shared->Prop}{s:Shared}
theorem keys_miss {a : Addr}{xs : Array Value}{k : Nat}{sl : Array (Option Value)}{Q : Option Value -> Shared -> Prop}(hx : s.heap.get? a = some { cls := .type "tuple", dict := none, data := .seq xs k, slots := sl }) (hA : A.handled = none)
    (h : ∀ h' tk, (∀ b o, s.heap.get? b = some o -> h'.get? b = some o) -> Q none { s with heap := h', toks := tk }) : wpAny (model prog w) A (getAttr? (.ref a) "keys") Q E s := by
  obtain ⟨hp, g, d, tk, os⟩ := s;have hT : ∀ tk', (⟨hp, g, d, tk', os⟩ : Shared).TypeIs (.ref a) "tuple" := fun _ => ⟨_, hx, rfl⟩
  have f1 := aBv;have f3 := F.slot_tuple_getattribute.lookup;have f4 := F.slot_tuple_getattribute.bind (.ref a);have f5 := am_tuple_getattr_none;unfold getAttr? getAttrBy? getAttrBy
  repeat (any_goals (first | assumption | exact hT _ |
    ((with_reducible show wpAny _ _ (call (Value.builtin "tuple.__getattribute__") _ _) _ _ _)
     refine vf F.slot_tuple_getattribute (hT _) am_entry_tuple_getattribute (F.args_tuple_getattribute_2 _ _) (meets_getattribute_miss_tuple a xs k sl "keys" _ bG5 (by decide +kernel)) ⟨hx, hA, fun h' tk' e ne => ?_⟩) | wp_step))
  obtain ⟨t', u', he⟩ := ne.there;show wpAny _ _ (getattributeRaised _ _ _ _ _ _ _) _ _ _;unfold getattributeRaised
  repeat (any_goals (first | assumption | wp_step))
  exact h _ _ ne.keeps
end
section
variable {X:Cx}{pins:List (Addr×Obj)}{σ: St}{H:Hp}{s:Shared}{a:Addr}{y v:V}{u r:Value}{A:Around}{E:Value->Shared->Prop}
theorem pX {H':Hp}{Q:Unit->Shared->Prop}(hu:A.units < cLine) (I:aQ X pins σ H s) (g:kB H a y v H') (ry:aX y u) (rv:aX v r) (h:∀ s',aQ X pins σ H' s'->Heap.SameBut a s.heap s'.heap->Q () s') :
  wpAny (model X.prog X.w) A (dictSet a u r) Q E s:=by
 rcases g with ⟨kvs,k,e,ey,l,eH⟩ | ⟨kvs,k,b,e,ey,eb,l,eH⟩
 ·subst ey eH;obtain ⟨z,hd,vs,rel,dd⟩:=aA5 I.hok e;refine wpAny_dictSet_pairs (hsz:=by rw [<- rel.length];exact z) (nW ry) dd fun h' dd' hs=>h _ (iX I (by rw [e];exact gm) hs (let ⟨q,_,_,hq,_⟩:=dd';⟨q,hq⟩) (yL ?_ hd (rel.put k rv) dd')) hs
  have:=dG kvs k v;omega
 ·subst ey eH
  cases (show u=Value.ref b from ry)
  obtain ⟨z,hd,xs,rel,dd⟩:=aX4 I.hok e;have hl:(bF kvs k v).length<=sizeLine:=by have:=dG kvs k v;omega
  refine aBw (hsz:=by rw [<- gj rel];exact z) (show (tupleKind (bL X.prog X.w)).room A from hu) (lQ I.hok eb) dd fun h' dd' hs=>h _ ?_ hs
  obtain ⟨q,es,ep,hq,h2,h3,h4,_,h5⟩:=dd';refine iX I (by rw [e];exact gm) hs ⟨q,hq⟩ ⟨hl,hd,_,(rel.put k eb rv).keeps fun c ys ec=>?_,q,es,ep,hq,h2,h3,h4,h5⟩;rw [aE (bN ec e (fun z=>nomatch z))];exact ec
end
theorem iF:entryFor table "dict.update.loop"=some Builtin.«dict.update.loop» :=yi (by kernel_rfl)
def nH (H:Hp) (d:Addr) (ys:List V) (o:Nat->HO):Prop:=∀ i,i < ys.length->∃ t k v,ys[i]?=some (.ref t)/\H t=some (.tup [k,v])/\kB (aJ H d (o i)) d k v (aJ H d (o (i+1)))
section
variable {X:Cx}{pins:List (Addr×Obj)}{σ: St}{H:Hp}{s:Shared}{A:Around}{E:Value->Shared->Prop}
theorem aP8 {p d it:Addr}{ys:List V}{o:Nat->HO}{Q:Value->Shared->Prop}(hu:A.in1.units < cLine) (hA:A.in1.handled=none) (hp:H p=some (.tup ys)) (hd:H d=none) (hi0:H it=none) (hid:it≠d) (C:nH H d ys o)
  (q:∀ s',aQ X pins σ (aJ H d (o ys.length)) s'->Q .none s'):∀ (n i:Nat) (tk:Tok) (s:Shared),n+i=ys.length->aQ X pins σ (aJ H d (o i)) s->kS X pins (aJ H d (o i)) it->s.heap.IsTupleIter it p i ->
  codeAny (model X.prog X.w) A (.builtin "dict.update.loop" ⟨[.ref d,.ref it,.int i tk,.none],[]⟩) (wants Q E) s:=by
 intro n
 induction n with
 |zero =>
  intro i tk s hn I hf st;have e:i=ys.length:=∅
  subst e;have hp':aJ H d (o ys.length) p=some (.tup ys):=by rw [aE (aF hp hd)];exact hp
  obtain ⟨its,rv,tp,hz⟩:=I.tuple (aT.of hp');obtain ⟨f0,f1,f2,f3,f4,f5⟩:=hf;have hl:=rv.length;refine qb iF ?_;unfold Builtin.«dict.update.loop»;refine aa (zc hA st (show s.heap.IsTuple p its.toArray from tp) (by simp;omega) fun h' eb=>?_);have I1:=I.turned (h':=h') (t':=s.toks) (fun b o hb e=>eb b o hb e) f0 f1 f3 f4 f5;show wpAny _ _ (Builtin.Dict.addKeywords d [] >>= fun _=>ret Value.none) _ _ _;exact aa (aj (aj (q _ I1)))
 |succ n ih =>
  intro i tk s hn I hf st;have hi:i < ys.length:=∅
  obtain ⟨t,k,v,ey,ht,g⟩:=C i hi;have hp':aJ H d (o i) p=some (.tup ys):=by rw [aE (aF hp hd)];exact hp
  have ht':aJ H d (o i) t=some (.tup [k,v]):=by rw [aE (aF ht hd)];exact ht
  obtain ⟨its,rv,tp,hz⟩:=I.tuple (aT.of hp');obtain ⟨u,hu',ru⟩:=rv.get ey
  cases ru
  obtain ⟨f0,f1,f2,f3,f4,f5⟩:=id hf;refine qb iF ?_;unfold Builtin.«dict.update.loop»;refine aa (yr st (show s.heap.IsTuple p its.toArray from tp) (x:= .ref t) (by simpa using hu') fun h' st' sb=>?_);have I1:=I.turned (h':=h') (t':=s.toks) (fun b o hb e=>(sb.2 b hb).trans e) f0 f1 f3 f4 f5;obtain ⟨its2,rv2,⟨o2,e2,c2,m2,d2⟩,_⟩:=I1.tuple (aT.of ht');obtain ⟨uk,uv,rfl,rk,rV⟩:=tV rv2;refine aa (fg (aa (aAf ?_)));refine (show wpAny _ _ (typeOf (.ref t) >>= _) _ _ _ from aa (my (T:="tuple") ⟨o2,e2,c2⟩ ?_));refine (show wpAny _ _ (seqItems? (.ref t) >>= _) _ _ _ from aa (ia e2 d2 (aj ?_)));show wpAny _ _ (holding [uk,uv] (dictSet d uk uv)) _ _ _;refine fg (pX hu I1 g rk rV fun s2 I2 sb2=>?_);refine (show wpAny _ _ (again _) _ _ _ from aj ⟨nc _ (by decide +kernel),?_⟩)
  have ni:aJ H d (o (i+1)) it=none:=by rw [aE hid];exact hi0
  exact ih (i+1) _ s2 ∅ I2 ⟨ni,f1,f2,f3,f4,f5⟩ (st'.at fun ob e=>(sb2.2 it hid).trans e)
theorem kK {k:Nat}(hr:bU k X.A):dL X (.type "dict") (fun xs H Q=>∃ (p:Addr) (ys:List V) (o:Nat->HO),xs=[.ref p]/\H p=some (.tup ys)/\(o 0= .dK []\/o 0= .dT [])/\∀ d,H d=none->nH H d ys o/\Q (.ref d) (aJ H d (o ys.length))):=by
 intro pins s σ H xs us Q I r h;obtain ⟨p,ys,o,rfl,hp,h0,h⟩:=h;obtain ⟨u,rfl,ru⟩:=gT r
 cases ru
 have hf:H s.heap.objs.size=none:=I.hok.fresh (ao _);obtain ⟨C,q⟩:=h _ hf;have hu:=hr.units;have ty:(⟨s.heap.push { cls:= .type "dict",data:= .dict #[] },s.gens,s.drawn,s.toks,s.os⟩:Shared).TypeIs (.ref s.heap.objs.size) "dict":=⟨_,aq _ rfl,rfl⟩
 have I1:aQ X pins σ (aJ H s.heap.objs.size (o 0)) { s with heap:=s.heap.push { cls:= .type "dict",data:= .dict #[] } }:=by
  rcases h0 with e | e
  ·rw [e];exact I.laid (a:=s.heap.objs.size) (o:= .dK []) (t':=s.toks) (fun _ _ q=>af _ q) (ao _) (oQ s.heap I.big)
  ·rw [e];exact I.laid (a:=s.heap.objs.size) (o:= .dT []) (t':=s.toks) (fun _ _ q=>af _ q) (ao _) (uB s.heap I.big)
 refine wn (Q₁:=fun obj s₁=>obj= .ref s.heap.objs.size/\s₁={ s with heap:=s.heap.push { cls:= .type "dict",data:= .dict #[] } }) yj (vo _) xp (yk _ ⟨rfl,rfl⟩) ?_;rintro obj s₁ ⟨rfl,rfl⟩;exists ty,xc _ _,?_;unfold Builtin.«dict.__init__»;refine aa ?_;unfold Builtin.Dict.selfAndRest;refine aa (je ty ?_);show wpAny _ _ (pure (s.heap.objs.size,[Value.ref p])) _ _ _;refine aj ?_;show wpAny _ _ (Builtin.Dict.updateFrom "dict.__init__" s.heap.objs.size (.ref p) [] .none) _ _ _;unfold Builtin.Dict.updateFrom;generalize hd0:s.heap.objs.size=d at hf C q I1 ⊢;have hp1:aJ H d (o 0) p=some (.tup ys):=by rw [aE (aF hp hf)];exact hp
 obtain ⟨_,its,rv,o1,e1,c1,n1,d1,x1⟩:=(show bO X.prog X.w _ _ p (.tup ys) from I1.hok p _ hp1)
 refine aa (my (T:="tuple") ⟨o1,e1,c1⟩ ?_);rw [bh (by decide)];obtain ⟨oc,od,oda,osl⟩:=o1
 dsimp only at c1 d1 x1
 subst c1 d1 x1;refine aa (keys_miss e1 (show X.A.handled=none from hr.hd) fun h' tk kp=>?_);have I2:=I1.kept (h':=h') (t':=tk) kp;rw [bh (by rfl)];refine aa (mj (aa (rp (items:=its.toArray) ⟨_,kp _ _ e1,rfl,_,rfl⟩ ?_)));have I3:=I2.kept (h':=h'.push { cls:= .type "tuple_iterator",data:= .fields #[.ref p,.int 0 0] }) (t':=tk) fun b o e=>af _ e
 have hit:aJ H d (o 0) h'.objs.size=none:=I2.hok.fresh (ao _);have hid:h'.objs.size≠d:=fun z=>by rw [z,aB] at hit;cases hit
 have hi0:H h'.objs.size=none:=by rw [aE hid] at hit;exact hit
 refine aj ⟨nc _ (by decide +kernel),?_⟩;refine aP8 (A:=X.A.in1) (Q:=fun r s₂=>r=Value.none/\EP X pins σ Q (.ref d) s₂) (H:=H) (p:=p) (ys:=ys) (o:=o) (by show X.A.units+1+1 < cLine;omega) (show X.A.handled=none from hr.hd) hp hf hi0 hid C (fun s' I'=>⟨rfl,.ref d,_,I',rfl,q⟩) ys.length 0 _ _ ∅ I3 ⟨hit,?_⟩ ⟨_,aq _ rfl,rfl,rfl⟩;exact (I2.fpOk (H':=aJ H d (o 0)) (ao _) hit).2
end
open PySem PySem.Spec PyProof.Rows PySem.W
def eI (n:Nat) (p:Array Nat):Prop:=p.Perm (List.range n).toArray
theorem eI.get {n:Nat}{p:Array Nat}(h:eI n p) (h0:0 < n) (x:Nat):p.getD x 0 < n:=by
 by_cases c:x < p.size
 ·have e:p.getD x 0=p[x]:=by simp [Array.getD,c]
  have m:p[x]∈(List.range n).toArray.toList:=(jy.mp h).mem_iff.mp (by simp);rw [e]
  simpa using m
 ·have e:p.getD x 0=0:=by simp [Array.getD,c]
  omega
theorem eI.rev {n:Nat}{p:Array Nat}(h:eI n p) (i j:Nat):eI n (kas_rev p i j):=(mirror_perm p i j _).trans h
section
variable {n:Nat}(h0:0 < n)
include h0
end
open PySem PySem.Spec PyProof.Rows PySem.W HT
def cI7 (h:Heap) (v:Value):Prop:=∃ (a:Addr) (its:Array Value) (ns:List Int),v= .ref a/\IsTup h a its/\IntsAre its.toList ns
theorem zX {us:List Value}{ns:List Int}(p:IntsAre us ns) {v:Value}(h:v∈us):∃ x t,v=Value.int x t:=by
 induction p with
 |nil=>cases h
 |cons n t r ih=>
  rcases bo.mp h with rfl | h
  ·exact ⟨_,_,rfl⟩
  ·exact ih h
section
variable {prog:Program}{w:World}{A:Around}{E:Value->Shared->Prop}{s:Shared}
theorem pE {α β: Type}{f:α->Sem β}{P:β->Prop}:∀ (l:List α) {Q:List β->Shared->Prop},(∀ v∈l,∀ Q':β->Shared->Prop,(∀ r,P r->Q' r s)->wpAny (model prog w) A (f v) Q' E s)->(∀ rs,(∀ r∈rs,P r)->Q rs s)->wpAny (model prog w) A (List.mapM f l) Q E s
 |[],Q,_,q=>by rw [List.mapM_nil];exact aj (q [] fun r h=>absurd h cu)
 |v :: l,Q,h,q=>by
  rw [List.mapM_cons];refine aa (h v bj _ fun r pr=>?_);refine aa (pE l (fun v' h'=>h v' (ba _ h')) fun rs prs=>?_);refine aj (q _ fun r' h'=>?_);rcases bo.mp h' with rfl | h'
  ·exact pr
  ·exact prs _ h'
theorem qI {l:List Value}{Q:Option Value->Shared->Prop}(h:∀ v∈l,∃ T,s.TypeIs v T) (q:∀ r,Q r s):wpAny (model prog w) A (oneTypeOnly' l.toArray) Q E s:=by
 rw [oneTypeOnly'_eq,List.mapM_toArray];refine aa ?_;show wpAny _ _ (List.mapM typeOf l >>= fun a=>pure a.toArray) _ _ _;refine aa (pE (P:=fun _=>True) l (fun v hv Q' hQ'=>?_) fun rs _=>aj ?_)
 ·obtain ⟨T,ht⟩:=h v hv;exact my ht (hQ' _ trivial)
 ·split
  ·exact aj (q _)
  ·exact aj (q _)
theorem bB9 {vs:List Value}{Q:SortKind->Shared->Prop}(h:∀ v∈vs,cI7 s.heap v) (q:∀ κ,(κ=general'\/κ=oneType'\/∃ b,κ=tuples' b)->Q κ s):wpAny (model prog w) A (keyKind' vs.toArray) Q E s:=by
 rw [kat_kind_eq,List.mapM_toArray];refine aa ?_;show wpAny _ _ (List.mapM firstOfTuple' vs >>= fun a=>pure a.toArray) _ _ _;refine aa (pE (P:=fun r:Option Value=>∀ v,r=some v->∃ x t,v=Value.int x t) vs (fun v hv Q' hQ'=>?_) fun rs prs=>aj ?_)
 ·obtain ⟨a,its,ns,rfl,⟨o,ho,hc,n,hd⟩,ix⟩:=h v hv;show wpAny _ _ (typeOf _ >>= _) _ _ _;refine aa (my (T:="tuple") ⟨o,ho,hc⟩ ?_);rw [ap (by simp)];refine aa (listItems_at ho hd (aj (hQ' _ fun v hv=>?_)));have:v∈its.toList:=by
   have:=Array.mem_of_getElem? hv
   simpa using this
  exact zX ix this
 ·split
  ·refine aa (mj ?_);have e:(Array.filterMap id rs.toArray)=(rs.filterMap id).toArray:=by simp
   rw [e];refine aa (qI (fun v hv=>?_) fun r=>aj (q _ (.inr (.inr ⟨_,rfl⟩))));obtain ⟨r,hr,er⟩:=xa.mp hv;obtain ⟨x,t,rfl⟩:=prs r hr v er;exact ⟨_,typeIs_int s x t⟩
  ·split
   ·exact aj (q _ (.inl rfl))
   ·refine aa (qI (fun v hv=>?_) fun r=>aj (q _ ?_))
    ·obtain ⟨a,its,ns,rfl,⟨o,ho,hc,n,hd⟩,ix⟩:=h v hv;exact ⟨"tuple",o,ho,hc⟩
    ·split
     ·exact .inr (.inl rfl)
     ·exact .inl rfl
end
def cJ9 (K:W.Frag):R2:=fun x y H Q=>∃ ds d,fN K H (.list ds) y/\fN K H d x/\SeqAt.shaped (.list ds)=true/\SeqAt.shaped d=true/\(∀ e∈ds,SeqAt.noMix e d=true)/\Q (.bl (decide (Spec.countIn d ds≠0))) H
theorem bR9 {X:Cx}{k:Nat}(hr:bU k X.A):jX X (compareOp .In) (cJ9 X.K):=by
 intro pins s σ H x y v u Q I rx ry h;obtain ⟨ds,d,hd,he,sd,se,mx,q⟩:=h;obtain ⟨as,ra⟩:=fN.reads I _ y u hd ry;obtain ⟨bs,rb⟩:=fN.reads I d x v he rx;exact in_list_dataH ra rb sd se (by have:=hr.un;omega) mx ⟨.bl _,H,I,rfl,q⟩
open PySem PySem.Spec PyProof.Rows
section
variable {prog:Program}{w:World}{A:Around}{E:Value->Shared->Prop}{s:Shared}
theorem bC7 {J t:Addr}{i:Nat}{its:Array Value}{v:Value}{Q:Value->Shared->Prop}(a1:s.heap.IsListIter J t i) (a2:s.heap.IsList t its) (a3:its[i]?=some v)
  (k:∀ g,g.IsListIter J t (i+1)->Heap.SameBut J s.heap g->Q v { s with heap:=g }):wpAny (model prog w) A (Builtin.SmallTypes.nextOf (.ref J)) Q E s:=by
 obtain ⟨oJ,e1,e2,e3⟩:=id a1;obtain ⟨oT,e4,_,m,e5⟩:=a2;unfold Builtin.SmallTypes.nextOf;refine aa (fm (name:=Str.ofString "__next__") a1.typeIs su (eh su a1.typeIs aBh ?_ (aBx _)));show wpAny _ _ (field (.ref J) 0 >>= _) _ _ s;refine aa (gx e1 e3 (x:= .ref t) rfl ?_);refine (show wpAny _ _ (if (Value.ref t == Value.none)=true then _ else _) _ _ s from ?_);rw [ap (show ¬ ((Value.ref t == Value.none)=true) by exact du)];show wpAny _ _ (field (.ref J) 1 >>= _) _ _ s;refine aa (gx e1 e3 (x:= .int i 0) rfl ?_);refine (show wpAny _ _ (seqItems? (.ref t) >>= _) _ _ s from aa (ia e4 e5 ?_));simp only [Int.toNat_natCast,a3];refine aa (pf e1 e3 (by simp) (aj ⟨v,rfl,aj (k _ ?_ (jr ..))⟩))
 exact ⟨_,kd _ e1 (uo (ng e3 _)),(xq ..).trans e2,by rw [ng e3];simp [rawInt]⟩
theorem aH2 {J t:Addr}{i:Nat}{its:Array Value}{Q:Value->Shared->Prop}(hh:A.handled=none) (a1:s.heap.IsListIter J t i) (a2:s.heap.IsList t its) (a3:its[i]?=none)
  (k:∀ g e,Heap.ExtBut J s.heap g->(∃ o,g.get? e=some o/\o.cls= .type "StopIteration")->E (.ref e) { s with heap:=g }):wpAny (model prog w) A (Builtin.SmallTypes.nextOf (.ref J)) Q E s:=by
 obtain ⟨oJ,e1,e2,e3⟩:=id a1;obtain ⟨oT,e4,_,m,e5⟩:=a2;unfold Builtin.SmallTypes.nextOf;refine aa (fm (name:=Str.ofString "__next__") a1.typeIs su (eh su a1.typeIs aBh ?_ (aBx _)));show wpAny _ _ (field (.ref J) 0 >>= _) _ _ s;refine aa (gx e1 e3 (x:= .ref t) rfl ?_);refine (show wpAny _ _ (if (Value.ref t == Value.none)=true then _ else _) _ _ s from ?_);rw [ap (show ¬ ((Value.ref t == Value.none)=true) by exact du)];show wpAny _ _ (field (.ref J) 1 >>= _) _ _ s;refine aa (gx e1 e3 (x:= .int i 0) rfl ?_);refine (show wpAny _ _ (seqItems? (.ref t) >>= _) _ _ s from aa (ia e4 e5 ?_));simp only [Int.toNat_natCast,a3];refine aa (mj (aa (pf e1 e3 (by simp) ?_)));refine (show wpAny _ _ (newExc (.type "StopIteration") [] >>= _) _ _ _ from aa ?_)
 simp only [newExc,newTuple];refine aa (gw ?_ (by size_fits));refine aa (m:=firstArgMember _ _) (wpAny_of_eq (a:=Value.none) (by first | exact rfl | (simp only [firstArgMember];rfl)) ?_);refine gw ?_ (by size_fits);simp only [raiseNew];refine aa (wpAny_handled ?_)
 first | rw [hh] | rw [show A.in1.handled=none from hh]
 refine aa (aj (wpAny_throw ?_));exact k _ _ (((jr ..).extBut.push _).push _) ⟨_,aq _ rfl,rfl⟩
structure bL7 (g:Heap) (n l1 l2:Addr) (i:Nat):Prop where
 z:IsZip g (n+4) (n+2) (n+3) .none
 I:IsPair g (n+2) (.ref n) (.ref (n+1))
 O:∃ a b,IsPair g (n+3) a b
 i1:g.IsListIter n l1 i
 i2:g.IsListIter (n+1) l2 i
theorem aS3 {n l1 l2:Addr}{i:Nat}{xs ys:Array Value}{x y:Value}{Q:Option Value->Shared->Prop}(o1:∀ j,j < 5->l1≠n+j) (o2:∀ j,j < 5->l2≠n+j) (Z:bL7 s.heap n l1 l2 i)
  (t1:s.heap.IsList l1 xs) (t2:s.heap.IsList l2 ys) (ex:xs[i]?=some x) (ey:ys[i]?=some y)
  (k:∀ g,IsZip g (n+4) (n+2) (n+3) (rawInt s.heap.objs.size)->IsPair g (n+3) x y->g.IsListIter n l1 (i+1)->g.IsListIter (n+1) l2 (i+1)->IsPair g s.heap.objs.size x y ->
   (∀ c o,c≠n+4->c≠n+3->c≠n->c≠n+1->s.heap.get? c=some o->g.get? c=some o)->Q (some (.ref s.heap.objs.size)) { s with heap:=g }) :
  wpAny (model prog w) A (pyNext (.ref (n+4))) Q E s:=by
 obtain ⟨hz,hI,⟨a,b,hO⟩,h1,h2⟩:=Z;have d0:n≠n+4/\n+1≠n+4/\n+2≠n+4/\n+3≠n+4/\n+3≠n/\n+3≠n+1/\n+1≠n:=by refine ⟨?_,?_,?_,?_,?_,?_,?_⟩ <;> (intro z;exact absurd z (by simp))
 obtain ⟨d1,d2,d3,d4,d5,d6,d7⟩:=d0;have l10:=o1 0 (by decide);have l11:=o1 1 (by decide);have l13:=o1 3 (by decide);have l14:=o1 4 (by decide);have l20:=o2 0 (by decide);have l21:=o2 1 (by decide);have l23:=o2 3 (by decide);have l24:=o2 4 (by decide);have hT:s.TypeIs (.ref (n+4)) "zip":=⟨_,hz,rfl⟩
 unfold pyNext;refine aa (oh (fm (name:=Str.ofString "__next__") hT vp (eh vp hT F.entry_zip_next ?_ (F.args_zip_next_1 _))));refine (show wpAny _ _ (field (.ref (n+4)) 2 >>= _) _ _ _ from aa (gx hz rfl (x:= .bool false) rfl ?_));refine (show wpAny _ _ (field (.ref (n+4)) 3 >>= _) _ _ _ from aa (gx hz rfl (x:= .ref (n+2)) rfl ?_));refine aa (ia hI rfl ?_);refine (show wpAny _ _ (Builtin.SmallTypes.ownedTupleIsFree (.ref (n+4)) >>= _) _ _ _ from aa ?_);unfold Builtin.SmallTypes.ownedTupleIsFree;refine aa (gx hz rfl (x:= .none) rfl (aj ?_));simp only [if_true];refine aa (mj (aa (gx hz rfl (x:= .ref (n+3)) rfl (aa (ib hz (by simp) fun g1 z1 s1=>?_)))));have z1:IsZip g1 (n+4) (n+2) (n+3) .ellipsis:=z1
 refine aa ?_;simp only [List.zipIdx_cons,List.zipIdx_nil,List.forIn_cons,List.forIn_nil];refine aa (aa (aBb (show wpAny _ _ (Builtin.SmallTypes.nextOf (.ref n) >>= _) _ _ _ from aa (bC7 (h1.at fun o e=>s1.extBut _ _ d1 e) (t1.at fun o e=>s1.extBut _ _ l14 e) ex fun g2 j2 s2=>aj ?_))));have O2:IsPair g2 (n+3) a b:=s2.extBut _ _ d5 (s1.extBut _ _ d4 hO);refine aa (ia O2 rfl (aa (aAu O2 fun g3 O3 s3=>?_)));have O3:IsPair g3 (n+3) x b:=O3;refine aa (zu (aj ?_));refine aa (aa (aBb (show wpAny _ _ (Builtin.SmallTypes.nextOf (.ref (n+1)) >>= _) _ _ _ from aa (bC7 (h2.at fun o e=>s3.extBut _ _ d6.symm (s2.extBut _ _ d7 (s1.extBut _ _ d2 e))) (t2.at fun o e=>s3.extBut _ _ l23 (s2.extBut _ _ l20 (s1.extBut _ _ l24 e))) ey fun g4 j4 s4=>aj ?_))))
 have O4:IsPair g4 (n+3) x b:=s4.extBut _ _ d6 O3;refine aa (ia O4 rfl (aa (aAu O4 fun g5 O5 s5=>?_)));have O5:IsPair g5 (n+3) x y:=O5;refine aa (zu (aj (aj ?_)));refine aa (ia O5 rfl (aa (aAg ?_)));have sz:g5.objs.size=s.heap.objs.size:=by rw [s5.1,s4.1,s3.1,s2.1,s1.1]
 have z5:IsZip g5 (n+4) (n+2) (n+3) .ellipsis:=s5.extBut _ _ d4.symm (s4.extBut _ _ d2.symm (s3.extBut _ _ d4.symm (s2.extBut _ _ d1.symm z1)));have k5:∀ c o,c≠n+4->c≠n+3->c≠n->c≠n+1->s.heap.get? c=some o->g5.get? c=some o:=fun c o c1 c2 c3 c4 e=>s5.extBut _ _ c2 (s4.extBut _ _ c4 (s3.extBut _ _ c2 (s2.extBut _ _ c3 (s1.extBut _ _ c1 e))))
 have j5:g5.IsListIter n l1 (i+1):=j2.at fun o e=>s5.extBut _ _ d5.symm (s4.extBut _ _ d7.symm (s3.extBut _ _ d5.symm e))
 have m5:g5.IsListIter (n+1) l2 (i+1):=j4.at fun o e=>s5.extBut _ _ d6.symm e
 have zlt:n+4 < g5.objs.size:=bi z5;refine (show wpAny _ _ (Builtin.SmallTypes.ownedTupleHandOut (.ref (n+4)) (.ref g5.objs.size) >>= _) _ _ _ from aa ?_);unfold Builtin.SmallTypes.ownedTupleHandOut;have z6:IsZip (g5.push { cls:= .type "tuple",data:= .seq #[x,y] }) (n+4) (n+2) (n+3) .ellipsis:=af _ z5;refine aa (ib z6 (by simp) fun g7 z7 s7=>?_);have z7:IsZip g7 (n+4) (n+2) (n+3) (rawInt g5.objs.size):=z7;refine ib z7 (by simp) fun g8 z8 s8=>?_
 have z8:IsZip g8 (n+4) (n+2) (n+3) (rawInt g5.objs.size):=z8;have up:∀ c o,c≠n+4->g5.get? c=some o->g8.get? c=some o:=fun c o c1 e=>s8.extBut _ _ c1 (s7.extBut _ _ c1 (af _ e))
 have T8:IsPair g8 g5.objs.size x y:=s8.extBut _ _ (ph zlt) (s7.extBut _ _ (ph zlt) (aq _ rfl));rw [sz] at z8 T8;refine aj ⟨_,rfl,aj ?_⟩;refine (show Q (some (.ref g5.objs.size)) _ from ?_);rw [sz];exact k g8 z8 (up _ _ d4 O5) (j5.at fun o e=>up _ o d1 e) (m5.at fun o e=>up _ o d2 e) T8 fun c o c1 c2 c3 c4 e=>up c o c1 (k5 c o c1 c2 c3 c4 e)
theorem aO4 {n l1 l2:Addr}{i:Nat}{xs:Array Value}{Q:Option Value->Shared->Prop}(hh:A.handled=none) (o1:∀ j,j < 5->l1≠n+j) (Z:bL7 s.heap n l1 l2 i)
  (t1:s.heap.IsList l1 xs) (ex:xs[i]?=none)
  (k:∀ g,(∀ c o,c≠n+4->c≠n->s.heap.get? c=some o->g.get? c=some o)->Q none { s with heap:=g }):wpAny (model prog w) A (pyNext (.ref (n+4))) Q E s:=by
 obtain ⟨hz,hI,⟨a,b,hO⟩,h1,h2⟩:=Z;have d1:n≠n+4:=by intro z;exact absurd z (by simp)
 have l14:=o1 4 (by decide);have hT:s.TypeIs (.ref (n+4)) "zip":=⟨_,hz,rfl⟩
 unfold pyNext;refine aa (oh (fm (name:=Str.ofString "__next__") hT vp (eh vp hT F.entry_zip_next ?_ (F.args_zip_next_1 _))));refine (show wpAny _ _ (field (.ref (n+4)) 2 >>= _) _ _ _ from aa (gx hz rfl (x:= .bool false) rfl ?_));refine (show wpAny _ _ (field (.ref (n+4)) 3 >>= _) _ _ _ from aa (gx hz rfl (x:= .ref (n+2)) rfl ?_));refine aa (ia hI rfl ?_);refine (show wpAny _ _ (Builtin.SmallTypes.ownedTupleIsFree (.ref (n+4)) >>= _) _ _ _ from aa ?_);unfold Builtin.SmallTypes.ownedTupleIsFree;refine aa (gx hz rfl (x:= .none) rfl (aj ?_));simp only [if_true];refine aa (mj (aa (gx hz rfl (x:= .ref (n+3)) rfl (aa (ib hz (by simp) fun g1 z1 s1=>?_)))));have z1:IsZip g1 (n+4) (n+2) (n+3) .ellipsis:=z1
 refine aa ?_;simp only [List.zipIdx_cons,List.zipIdx_nil,List.forIn_cons,List.forIn_nil];refine aa (aa (aBb (show wpAny _ _ (Builtin.SmallTypes.nextOf (.ref n) >>= _) _ _ _ from aa (aH2 hh (h1.at fun o e=>s1.extBut _ _ d1 e) (t1.at fun o e=>s1.extBut _ _ l14 e) ex fun g2 e s2 he=>?_))));obtain ⟨oe,hoe,hce⟩:=he;have z2:IsZip g2 (n+4) (n+2) (n+3) .ellipsis:=s2 _ _ d1.symm z1;have ez:e≠n+4:=fun q=>by subst q;rw [z2] at hoe;cases hoe;simp at hce
 refine ib z2 (by simp) fun g3 _ s3=>?_
 refine aa (mf (T:="StopIteration") (b:=true) ⟨oe,s3.extBut _ _ ez hoe,hce⟩ wq ?_);exact aj (k _ fun c o c1 c2 q=>s3.extBut _ _ c1 (s2 _ _ c2 (s1.extBut _ _ c1 q)))
end
abbrev yA (g:Heap) (l1:Addr):Heap:=g.push { cls:= .type "list_iterator",data:= .fields #[.ref l1,.int 0 0] }
abbrev yB (g:Heap) (l1 l2:Addr):Heap:=(yA g l1).push { cls:= .type "list_iterator",data:= .fields #[.ref l2,.int 0 0] }
abbrev yC (g:Heap) (l1 l2:Addr):Heap:=(yB g l1 l2).push { cls:= .type "tuple",data:= .seq #[.ref g.objs.size,.ref (yA g l1).objs.size] }
abbrev yD (g:Heap) (l1 l2:Addr):Heap:=(yC g l1 l2).push { cls:= .type "tuple",data:= .seq #[.none,.none] }
abbrev yE (g:Heap) (l1 l2:Addr):Heap:=(yD g l1 l2).push { cls:= .type "zip",data:= .fields #[.none,.bool false,.bool false,.ref (yB g l1 l2).objs.size,.ref (yC g l1 l2).objs.size] }
theorem aU6 (l1 l2:Addr) (xs ys:Array Value):Meets (Builtin.«zip.__new__» ⟨[.type "zip",.ref l1,.ref l2],[]⟩) (fun _ R s=>s.heap.IsList l1 xs/\s.heap.IsList l2 ys /\
   R (.ok (.ret (.ref (yD s.heap l1 l2).objs.size))) { s with heap:=yE s.heap l1 l2 }) :=
 .of_wp fun prog w A R s h=>by
  obtain ⟨q,g,d,tk,os⟩:=s;obtain ⟨t1,t2,h⟩:=h;have hS:=PySem.sub_zip;have T1:Heap.IsList (Shared.heap ⟨q,g,d,tk,os⟩) l1 xs:=t1;have T2:Heap.IsList (Shared.heap ⟨q.push { cls:= .type "list_iterator",data:= .fields #[.ref l1,.int 0 0] },g,d,tk,os⟩) l2 ys:=t2.at fun o e=>af _ e
  wp_walk using im T1,im T2
  exact ⟨_,rfl,h⟩
section
variable {prog:Program}{w:World}{A:Around}{E:Value->Shared->Prop}{s:Shared}
theorem aR5 {l1 l2:Addr}{xs ys:Array Value}{Q:Value->Shared->Prop}(t1:s.heap.IsList l1 xs) (t2:s.heap.IsList l2 ys)
  (k:∀ g,bL7 g s.heap.objs.size l1 l2 0->(∀ c o,s.heap.get? c=some o->g.get? c=some o)->Q (.ref (s.heap.objs.size+4)) { s with heap:=g }) :
  wpAny (model prog w) A (call (.type "zip") [.ref l1,.ref l2]) Q E s:=by
 refine callType_new F.called_zip (by decide) (F.typeCall_zip_2 _ _) (F.newCall_zip_2 _ _) (fun obj=>F.args_object_init_3 obj _ _) F.entry_zip_new (aU6 l1 l2 xs ys) ⟨t1,t2,?_⟩;have n1:(yA s.heap l1).objs.size=s.heap.objs.size+1:=by rw [ip]
 have n2:(yB s.heap l1 l2).objs.size=s.heap.objs.size+2:=by rw [ip,n1]
 have n3:(yC s.heap l1 l2).objs.size=s.heap.objs.size+3:=by rw [ip,n2]
 have n4:(yD s.heap l1 l2).objs.size=s.heap.objs.size+4:=by rw [ip,n3]
 have b5:(yE s.heap l1 l2).get? (yD s.heap l1 l2).objs.size=some _:=aq _ rfl;have b4:(yE s.heap l1 l2).get? (yC s.heap l1 l2).objs.size=some _:=af _ (aq _ rfl);have b3:(yE s.heap l1 l2).get? (yB s.heap l1 l2).objs.size=some _:=af _ (af _ (aq _ rfl));have b2:(yE s.heap l1 l2).get? (yA s.heap l1).objs.size=some _:=af _ (af _ (af _ (aq _ rfl)));have b1:(yE s.heap l1 l2).get? s.heap.objs.size=some _:=af _ (af _ (af _ (af _ (aq _ rfl))));show _/\_;rw [n2,n3,n4] at b5;rw [n1,n2] at b3;rw [n3] at b4;rw [n1] at b2;rw [n4];exact ⟨⟨_,b5,rfl⟩,k _ ⟨b5,b3,⟨_,_,b4⟩,⟨_,b1,rfl,rfl⟩,⟨_,b2,rfl,rfl⟩⟩ fun c o q=>af _ (af _ (af _ (af _ (af _ q))))⟩
end
def ItzL (K : W.Frag) (a b : Addr) : It :=
  ⟨fun i H => ∃ xs ys, bK K H a xs /\ bK K H b ys /\ xs.length = ys.length /\ i < xs.length,
   fun i H x H' => ∃ t, H t = none /\ x = .ref t /\ ∀ xs ys, bK K H a xs -> bK K H b ys -> ∃ u v, xs[i]? = some u /\ ys[i]? = some v /\ H' = aJ H t (.tup [u, v]),
   fun i H => ∃ xs, bK K H a xs /\ xs.length <= i⟩
theorem aQ8 {P:Program}{w:World}{K:W.Frag}{elts:List Expr}{x1:Nat}{pos:Pos}(a b n:Addr) (ha:a < n) (hb:b < n) :
  uF P w K (.Tuple elts x1 pos) (ItzL K a b) [n,n+1,n+2,n+3,n+4] (n+4) (fun i h=>bL7 h n a b i) where
 mem:=by simp
 obj:=fun i h Z c hc=>by
  obtain ⟨hz,hI,⟨u,v,hO⟩,⟨o1,e1,c1,d1⟩,⟨o2,e2,c2,d2⟩⟩:=Z;simp only [List.mem_cons,List.not_mem_nil,or_false] at hc;rcases hc with rfl | rfl | rfl | rfl | rfl
  ·exact ⟨_,e1,fun v z=>by rw [d1] at z;cases z⟩
  ·exact ⟨_,e2,fun v z=>by rw [d2] at z;cases z⟩
  ·exact ⟨_,hI,fun v z=>by cases z⟩
  ·exact ⟨_,hO,fun v z=>by cases z⟩
  ·exact ⟨_,hz,fun v z=>by cases z⟩
 keep:=fun i h h' Z k=>⟨k _ (by simp) _ Z.z,k _ (by simp) _ Z.I,let ⟨u,v,q⟩:=Z.O;⟨u,v,k _ (by simp) _ q⟩,Z.i1.at fun o e=>k _ (by simp) o e,Z.i2.at fun o e=>k _ (by simp) o e⟩
 item:=by
  intro X hP hw hK hc i pins s σ H E I hf Z hg;subst hP hw hK;obtain ⟨xs,ys,q1,q2,hl,hi⟩:=hg;obtain ⟨is1,r1,p1,_⟩:=I.list q1;obtain ⟨is2,r2,p2,_⟩:=I.list q2;obtain ⟨u,hu,ru⟩:=r1.get (i:=i) (x:=xs[i]) (by simp [hi]);obtain ⟨v,hv,rv⟩:=r2.get (i:=i) (x:=ys[i]'(by omega)) (by simp [show i < ys.length by omega]);refine aS3 (fun j _=>cw (cr ha (qr ..))) (fun j _=>cw (cr hb (qr ..))) Z p1.isList p2.isList
   (x:=u) (y:=v) (by simpa using hu) (by simpa using hv) fun g z1 O1 j1 m1 T1 k1=>⟨_,rfl,wpAny_letOwnedTupleGo_zip z1 fun g2 z2 sb=>?_⟩
  have nT:s.heap.objs.size≠n+4:=ph (bi Z.z);have kk:∀ c o,c∉[n,n+1,n+2,n+3,n+4]->s.heap.get? c=some o->g2.get? c=some o:=fun c o hc e=>by
   simp only [List.mem_cons,List.not_mem_nil,or_false,not_or] at hc;exact (sb.2 c hc.2.2.2.2).trans (k1 c o hc.2.2.2.2 hc.2.2.2.1 hc.1 hc.2.1 e)
  have TT:IsPair g2 s.heap.objs.size u v:=(sb.2 _ nT).trans T1;have d:∀ j,j < 4->n+j≠n+4:=fun j hj z=>absurd (Nat.add_left_cancel z) (cw hj)
  have I2:=I.turnedNew (T:=s.heap.objs.size) (o:= .tup [xs[i],ys[i]'(by omega)]) (rs:=[n,n+1,n+2,n+3,n+4]) (t':=s.toks) hf kk (ao _) ⟨cT,[u,v],.cons ru (.cons rv .nil),⟨_,TT,rfl,_,rfl,rfl⟩⟩;exists .ref s.heap.objs.size,_,I2,rfl,⟨_,I.fresh,rfl,fun xs' ys' w1 w2=>⟨xs[i],ys[i]'(by omega),?_,?_,rfl⟩⟩,⟨z2,(sb.2 _ (d 2 (by decide))).trans (k1 _ _ (d 2 (by decide)) (by simp) (by simp) (by simp) Z.I),⟨u,v,(sb.2 _ (d 3 (by decide))).trans O1⟩,j1.at fun o e=>(sb.2 _ (d 0 (by decide))).trans e,m1.at fun o e=>(sb.2 _ (d 1 (by decide))).trans e⟩,fun c hc=>?_
  ·rw [I.list_inj w1 q1];simp [hi]
  ·rw [I.list_inj w2 q2];simp [show i < ys.length by omega]
  ·rw [aE (fun z=>?_)]
   ·exact (hf c hc).1
   ·obtain ⟨o,e,_⟩:∃ o,s.heap.get? c=some o/\True:=by
     obtain ⟨hz,hI,⟨u',v',hO⟩,⟨o1,e1,c1,d1⟩,⟨o2,e2,c2,d2⟩⟩:=Z;simp only [List.mem_cons,List.not_mem_nil,or_false] at hc;rcases hc with rfl | rfl | rfl | rfl | rfl
     ·exact ⟨_,e1,trivial⟩
     ·exact ⟨_,e2,trivial⟩
     ·exact ⟨_,hI,trivial⟩
     ·exact ⟨_,hO,trivial⟩
     ·exact ⟨_,hz,trivial⟩
    exact absurd (bi e) (by rw [z];exact ff _)
 done:=by
  intro X hP hw hK hc i pins s σ H E I hf Z hg;subst hP hw hK;obtain ⟨xs,q1,hx⟩:=hg;obtain ⟨is1,r1,p1,_⟩:=I.list q1;have hl:=r1.length;refine aO4 (I.ok.hd hc) (fun j _=>cw (cr ha (qr ..))) Z p1.isList (by simp;omega) fun g k=>⟨rfl,I.turnedL (rs:=[n,n+1,n+2,n+3,n+4]) (t':=s.toks) hf fun c o hc e=>?_⟩
  simp only [List.mem_cons,List.not_mem_nil,or_false,not_or] at hc;exact k c o hc.2.2.2.2 hc.1 e
 self:=fun _ _ _ _ _ Z h=>wpAny_pyIter_zip Z.z h
def cA8 (K:W.Frag) (ta:TA):TI:=fun σ H R=>ta σ H fun vs H1=>∃ a b,vs=[.ref a,.ref b]/\(∃ xs,bK K H1 a xs)/\(∃ ys,bK K H1 b ys)/\R (ItzL K a b) H1
theorem bF3 {X:Cx}{a b:Expr}{ta:TA}{p pos:Pos}{elts:List Expr}{x1:Nat}{tpos:Pos}(hg:Gl X "zip") (hm:X.mg "zip"=none) (ha:PA X [a,b] ta) (hs:autoParam (starEach [a,b] X.env=[(false,eval a X.env),(false,eval b X.env)]) Rq0._auto_1) (hs2:autoParam (starEach [b] X.env=[(false,eval b X.env)]) Rq0._auto_1) :
  PI X (.Tuple elts x1 tpos) (.Call (.Name "zip" p) [a,b] [] pos) (cA8 X.K ta):=by
 intro pins s σ H R I h;refine kc (kH I hg hm PyProof.Rows.boot_zip (gt (cO (ha pos pins s σ H _ I h) fun us s1 ⟨vs,H1,I1,r1,q1⟩=>?_) (by rw [hs,hs2]) (by rw [hs2];rfl)));obtain ⟨a',b',rfl,⟨xs,q1⟩,⟨ys,q2⟩,q⟩:=q1;obtain ⟨u,v,rfl,ru,rv⟩:=tV r1
 cases ru
 cases rv
 obtain ⟨is1,_,p1,_⟩:=I1.list q1;obtain ⟨is2,_,p2,_⟩:=I1.list q2;have la:a' < s1.heap.objs.size:=by obtain ⟨_,_,e,_⟩:=p1;exact bi e
 have lb:b' < s1.heap.objs.size:=by obtain ⟨_,_,e,_⟩:=p2;exact bi e
 refine aR5 p1.isList p2.isList fun g Z k=>wpAny_pyIter_zip Z.z ?_
 have I2:aQ X pins σ H1 { s1 with heap:=g }:=I1.kept (t':=s1.toks) k;exists s1.heap.objs.size+4,_,_,ItzL X.K a' b',H1,rfl,I2,aQ8 a' b' s1.heap.objs.size la lb,Z,fun c hc=>?_,q;have hge:s1.heap.objs.size<=c:=by
  simp only [List.mem_cons,List.not_mem_nil,or_false] at hc;rcases hc with rfl | rfl | rfl | rfl | rfl
  ·exact ao _
  all_goals exact qr ..
 exact I1.fpOk hge (I1.hok.fresh hge)
section
variable {g:TG}{tc:TT}{te:TE}
theorem aO5 {K:W.Frag}{a b:Addr}{xs ys:List V}{Kf:List V->Hp->Prop}{σ0:St}{H1:Hp}(Pv:Nat->List V->St->Hp->Prop) (hz:xs.length < sizeLine) (hxy:xs.length=ys.length) (h0:Pv 0 [] σ0 H1) (hb:∀ i zs σ H,Pv i zs σ H->zs.length<=i)
  (hl:∀ i zs σ H,i<=xs.length->Pv i zs σ H->bK K H a xs/\bK K H b ys)
  (hs:∀ i x y zs σ H t,xs[i]?=some x->ys[i]?=some y->Pv i zs σ H->H t=none->g (.ref t) σ (aJ H t (.tup [x,y])) fun σ2 H2=>tc σ2 H2 fun b H3=>if b=true then te σ2 H3 fun v H4=>Pv (i+1) (zs++[v]) σ2 H4 else Pv (i+1) zs σ2 H3)
  (hd:∀ zs σ H,Pv xs.length zs σ H->Kf zs H):lM (ItzL K a b) g tc te Kf σ0 H1:=by
 exists fun i m zs σ H=>m=xs.length - i/\i<=xs.length/\Pv i zs σ H,⟨xs.length,by simp,df _,h0⟩,?_;rintro i m zs σ H ⟨rfl,hi,p⟩;obtain ⟨q1,q2⟩:=hl i zs σ H hi p;exists db (hb _ _ _ _ p) (db hi hz),?_
 by_cases hlt:i < xs.length
 ·refine .inr ⟨⟨xs,ys,q1,q2,hxy,hlt⟩,Pv (i+1),fun zs' σ' H' p'=>⟨xs.length - (i+1),∅,rfl,hlt,p'⟩,fun x H' y=>?_⟩;obtain ⟨t,ht,rfl,w⟩:=y;obtain ⟨u,v,e1,e2,rfl⟩:=w xs ys q1 q2;exact hs i u v zs σ H t e1 e2 p ht
 ·have e:i=xs.length:=∅
  subst e;exact .inl ⟨⟨xs,q1,ao _⟩,hd zs σ H p⟩
end
theorem aB9 (val:Nat->Int):∀ k i,i<=k->val i<=val (argBest (fun i j=>decide (val i > val j)) k)
 |0,i,h=>by
  have:i=0:=∅
  subst this;exact gi _
 |k+1,i,h=>by
  have ih:=aB9 val k;rw [argBest]
  split
  ·rename_i c
   have c:=cf c
   by_cases e:i=k+1
   ·rw [e];exact gi _
   ·have:=ih i ∅;omega
  ·rename_i c
   have c:¬ val (k+1) > val _:=fun z=>c (ar z)
   by_cases e:i=k+1
   ·rw [e];exact Int.not_lt.mp c
   ·exact ih i ∅
theorem aH3 {X:Cx}(hc:autoParam (X.calm=true) Rq0._auto_1):dL X (.builtin "max") (fun xs H Q=>∃ (p:Addr) (ns:List Int),xs=[.ref p]/\aT X.K H p (ns.map V.int)/\ns≠[]/\∀ i,(∀ n∈ns,n<=i)->Q (.int i) H):=by
 intro pins s σ H xs us Q I r h;obtain ⟨p,ns,rfl,hq,hne,q⟩:=h;obtain ⟨u,rfl,ru⟩:=gT r
 cases ru
 obtain ⟨its,rv,pl,hz⟩:=I.tuple hq;have it:s.heap.IsTuple p its.toArray:=pl;have lp:p < s.heap.objs.size:=by
  obtain ⟨o,e,_⟩:=it;exact bi e
 have hl:=rv.length;rw [ae] at hl;have val:∀ i v,its.toArray[i]?=some v->∃ t,v=Value.int (ns.getD i 0) t:=fun i v hv=>by
  have hi:its[i]?=some v:=by simpa using hv
  have hb:i < ns.length:=by
   have:=(bw.mp hi).1;omega
  obtain ⟨u,hu,ru⟩:=rv.get (i:=i) (x:=V.int ns[i]) (by rw [cp,ak hb];rfl);rw [hi] at hu
  cases hu
  obtain ⟨t,e⟩:=ru;exact ⟨t,by rw [e];simp [List.getD,hb]⟩
 have hpos:0 < its.toArray.size:=by
  rw [cv, <- hl]
  cases ns with
  |nil=>exact absurd rfl hne
  |cons _ _=>simp
 refine call_max_walk (rp it ⟨s.heap.objs.size,_,_,_,_,_,_,rfl,Walks.tuple (A:=X.A.in1) (I.ok.hd hc) s.heap.objs.size p (cw lp) its.toArray,⟨⟨_,aq _ rfl,rfl,rfl⟩,it.at fun o e=>af _ e⟩,?_,hpos,CmpOf.ints_gt (fun i=>ns.getD i 0) val,?_⟩)
 ·intro b hb;rw [ip];rcases bo.mp hb with z | z
  ·rw [z];exact dy _
  ·have z:b=p:=by simpa using z
   rw [z];exact on lp
 ·intro v h' tk hv hk;have kept:∀ b o,s.heap.get? b=some o->h'.get? b=some o:=fun b o e=>hk b o (by
   intro z;have z:b=s.heap.objs.size:=by simpa using z
   exact absurd (bi e) (by rw [z];exact ff _)) (af _ e)
  obtain ⟨t,rfl⟩:=val _ _ hv;exists .int _,H,I.kept kept,⟨t,rfl⟩,q _ fun n hn=>?_;obtain ⟨i,hi,e⟩:=ki.mp hn;have:=aB9 (fun i=>ns.getD i 0) (its.toArray.size - 1) i (by rw [cv, <- hl];omega);rw [show ns.getD i 0=n by simp [List.getD,hi,e]] at this;exact this
section
variable {X:Cx}
def bO0 (K:W.Frag):R2:=fun x y H Q=>∃ a b xs ys,x= .ref a/\y= .ref b/\aT K H a xs/\aT K H b ys/\ys≠[]/\xs.length+ys.length<=sizeLine /\
 (xs=[]->Q (.ref b) H)/\(xs≠[]->∀ p,H p=none->Q (.ref p) (aJ H p (.tup (xs++ys))))
theorem aM7:jX X (binaryOp .Add) (bO0 X.K):=by
 intro pins s σ H x y v u Q I rx ry h
 by_cases c:∃ a xs,x= .ref a/\aT X.K H a xs/\xs≠[]
 ·obtain ⟨a',xs',e,ha',hx⟩:=c;obtain ⟨a,b,xs,ys,rfl,rfl,ha,hb,hy,hz,q1,q2⟩:=h;have e:=V.ref.inj e;rw [<- e] at ha';have:=I.tuple_inj ha ha';subst this;exact bH8 pins s σ H _ _ v u Q I rx ry ⟨_,b,xs,ys,rfl,rfl,ha,hb,hx,hz,fun z=>absurd z hy,fun _=>q2 hx⟩
 ·obtain ⟨a,b,xs,ys,rfl,rfl,ha,hb,hy,hz,q1,q2⟩:=h;have hx:xs=[]:=Decidable.byContradiction fun z=>c ⟨a,xs,rfl,ha,z⟩
  subst hx
  cases rx
  cases ry
  obtain ⟨its,r1,p1,_⟩:=I.tuple ha;obtain ⟨its2,r2,p2,_⟩:=I.tuple hb
  cases r1
  obtain ⟨⟨cls,dd,data,sl⟩,ho,hc,n,hd⟩:=id p1;obtain ⟨⟨cls2,dd2,data2,sl2⟩,ho2,hc2,n2,hd2⟩:=id p2;simp only at hc hd hc2 hd2;subst hc hd hc2 hd2;exact aBq ⟨_,ho,rfl⟩ ⟨_,ho2,rfl⟩ yf aBa ub sy (rq _ _)
   (tuple_addW0 a b _ its2.toArray n n2 dd dd2 sl sl2 (by simp)) ⟨ho,ho2,.ref b,H,I,rfl,q1 rfl⟩
end
section
variable {X:Cx}
end
theorem bB3:typeLookup (.type "list") "keys"=pure none:=by rw [vh,qj];kernel_rfl
section
variable {prog:Program}{w:World}{A:Around}{E:Value->Shared->Prop}{s:Shared}
theorem keys_missL {a : Addr}{xs : Array Value}{k : Nat}{sl : Array (Option Value)}{Q : Option Value -> Shared -> Prop}(hx : s.heap.get? a = some { cls := .type "list", dict := none, data := .seq xs k, slots := sl }) (hA : A.handled = none)
    (h : ∀ h' tk, (∀ b o, s.heap.get? b = some o -> h'.get? b = some o) -> Q none { s with heap := h', toks := tk }) : wpAny (model prog w) A (getAttr? (.ref a) "keys") Q E s := by
  obtain ⟨hp, g, d, tk, os⟩ := s;have hT : ∀ tk', (⟨hp, g, d, tk', os⟩ : Shared).TypeIs (.ref a) "list" := fun _ => ⟨_, hx, rfl⟩
  have f1 := aBv;have f3 := F.slot_list_getattribute.lookup;have f4 := F.slot_list_getattribute.bind (.ref a);have f5 := am_list_getattr_none;unfold getAttr? getAttrBy? getAttrBy
  repeat (any_goals (first | assumption | exact hT _ |
    ((with_reducible show wpAny _ _ (call (Value.builtin "list.__getattribute__") _ _) _ _ _)
     refine vf F.slot_list_getattribute (hT _) am_entry_list_getattribute (F.args_list_getattribute_2 _ _) (meets_getattribute_miss_list a xs k sl "keys" _ bB3 (by decide +kernel)) ⟨hx, hA, fun h' tk' e ne => ?_⟩) | wp_step))
  obtain ⟨t', u', he⟩ := ne.there;show wpAny _ _ (getattributeRaised _ _ _ _ _ _ _) _ _ _;unfold getattributeRaised
  repeat (any_goals (first | assumption | wp_step))
  exact h _ _ ne.keeps
end
section
variable {X:Cx}{pins:List (Addr×Obj)}{σ: St}{H:Hp}{s:Shared}{A:Around}{E:Value->Shared->Prop}
theorem aE8 {p d it:Addr}{ys:List V}{o:Nat->HO}{Q:Value->Shared->Prop}(hu:A.in1.units < cLine) (hA:A.in1.handled=none) (hp:H p=some (.lst ys)) (hd:H d=none) (hi0:H it=none) (hid:it≠d) (C:nH H d ys o)
  (q:∀ s',aQ X pins σ (aJ H d (o ys.length)) s'->Q .none s'):∀ (n i:Nat) (tk:Tok) (s:Shared),n+i=ys.length->aQ X pins σ (aJ H d (o i)) s->kS X pins (aJ H d (o i)) it->s.heap.IsListIter it p i ->
  codeAny (model X.prog X.w) A (.builtin "dict.update.loop" ⟨[.ref d,.ref it,.int i tk,.none],[]⟩) (wants Q E) s:=by
 intro n
 induction n with
 |zero =>
  intro i tk s hn I hf st;have e:i=ys.length:=∅
  subst e;have hp':aJ H d (o ys.length) p=some (.lst ys):=by rw [aE (aF hp hd)];exact hp
  obtain ⟨its,rv,tp,hz⟩:=I.list (bK.of hp');obtain ⟨f0,f1,f2,f3,f4,f5⟩:=hf;have hl:=rv.length;refine qb iF ?_;unfold Builtin.«dict.update.loop»;refine aa (qi hA st tp.isList (by simp;omega) fun h' eb=>?_);have I1:=I.turned (h':=h') (t':=s.toks) (fun b o hb e=>eb b o hb e) f0 f1 f3 f4 f5;show wpAny _ _ (Builtin.Dict.addKeywords d [] >>= fun _=>ret Value.none) _ _ _;exact aa (aj (aj (q _ I1)))
 |succ n ih =>
  intro i tk s hn I hf st;have hi:i < ys.length:=∅
  obtain ⟨t,k,v,ey,ht,g⟩:=C i hi;have hp':aJ H d (o i) p=some (.lst ys):=by rw [aE (aF hp hd)];exact hp
  have ht':aJ H d (o i) t=some (.tup [k,v]):=by rw [aE (aF ht hd)];exact ht
  obtain ⟨its,rv,tp,hz⟩:=I.list (bK.of hp');obtain ⟨u,hu',ru⟩:=rv.get ey
  cases ru
  obtain ⟨f0,f1,f2,f3,f4,f5⟩:=id hf;refine qb iF ?_;unfold Builtin.«dict.update.loop»;refine aa (qe st tp.isList (x:= .ref t) (by simpa using hu') fun h' st' sb=>?_);have I1:=I.turned (h':=h') (t':=s.toks) (fun b o hb e=>(sb.2 b hb).trans e) f0 f1 f3 f4 f5;obtain ⟨its2,rv2,⟨o2,e2,c2,m2,d2⟩,_⟩:=I1.tuple (aT.of ht');obtain ⟨uk,uv,rfl,rk,rV⟩:=tV rv2;refine aa (fg (aa (aAf ?_)));refine (show wpAny _ _ (typeOf (.ref t) >>= _) _ _ _ from aa (my (T:="tuple") ⟨o2,e2,c2⟩ ?_));refine (show wpAny _ _ (seqItems? (.ref t) >>= _) _ _ _ from aa (ia e2 d2 (aj ?_)));show wpAny _ _ (holding [uk,uv] (dictSet d uk uv)) _ _ _;refine fg (pX hu I1 g rk rV fun s2 I2 sb2=>?_);refine (show wpAny _ _ (again _) _ _ _ from aj ⟨nc _ (by decide +kernel),?_⟩);have ni:aJ H d (o (i+1)) it=none:=by rw [aE hid];exact hi0
  exact ih (i+1) _ s2 ∅ I2 ⟨ni,f1,f2,f3,f4,f5⟩ (st'.at fun ob e=>(sb2.2 it hid).trans e)
theorem nG {k:Nat}(hr:bU k X.A):dL X (.type "dict") (fun xs H Q=>∃ (p:Addr) (ys:List V) (o:Nat->HO),xs=[.ref p]/\H p=some (.lst ys)/\(o 0= .dK []\/o 0= .dT [])/\∀ d,H d=none->nH H d ys o/\Q (.ref d) (aJ H d (o ys.length))):=by
 intro pins s σ H xs us Q I r h;obtain ⟨p,ys,o,rfl,hp,h0,h⟩:=h;obtain ⟨u,rfl,ru⟩:=gT r
 cases ru
 have hf:H s.heap.objs.size=none:=I.hok.fresh (ao _);obtain ⟨C,q⟩:=h _ hf;have hu:=hr.units;have ty:(⟨s.heap.push { cls:= .type "dict",data:= .dict #[] },s.gens,s.drawn,s.toks,s.os⟩:Shared).TypeIs (.ref s.heap.objs.size) "dict":=⟨_,aq _ rfl,rfl⟩
 have I1:aQ X pins σ (aJ H s.heap.objs.size (o 0)) { s with heap:=s.heap.push { cls:= .type "dict",data:= .dict #[] } }:=by
  rcases h0 with e | e
  ·rw [e];exact I.laid (a:=s.heap.objs.size) (o:= .dK []) (t':=s.toks) (fun _ _ q=>af _ q) (ao _) (oQ s.heap I.big)
  ·rw [e];exact I.laid (a:=s.heap.objs.size) (o:= .dT []) (t':=s.toks) (fun _ _ q=>af _ q) (ao _) (uB s.heap I.big)
 refine wn (Q₁:=fun obj s₁=>obj= .ref s.heap.objs.size/\s₁={ s with heap:=s.heap.push { cls:= .type "dict",data:= .dict #[] } }) yj (vo _) xp (yk _ ⟨rfl,rfl⟩) ?_;rintro obj s₁ ⟨rfl,rfl⟩;exists ty,xc _ _,?_;unfold Builtin.«dict.__init__»;refine aa ?_;unfold Builtin.Dict.selfAndRest;refine aa (je ty ?_);show wpAny _ _ (pure (s.heap.objs.size,[Value.ref p])) _ _ _;refine aj ?_;show wpAny _ _ (Builtin.Dict.updateFrom "dict.__init__" s.heap.objs.size (.ref p) [] .none) _ _ _;unfold Builtin.Dict.updateFrom;generalize hd0:s.heap.objs.size=d at hf C q I1 ⊢;have hp1:aJ H d (o 0) p=some (.lst ys):=by rw [aE (aF hp hf)];exact hp
 obtain ⟨_,its,n1,rv,e1⟩:=(show bO X.prog X.w _ _ p (.lst ys) from I1.hok p _ hp1)
 refine aa (my (T:="list") ⟨_,e1,rfl⟩ ?_);rw [bh (by decide)];refine aa (keys_missL e1 (show X.A.handled=none from hr.hd) fun h' tk kp=>?_);have I2:=I1.kept (h':=h') (t':=tk) kp;rw [bh (by rfl)];refine aa (mj (aa (im (items:=its.toArray) ⟨_,kp _ _ e1,rfl,_,rfl⟩ ?_)));have I3:=I2.kept (h':=h'.push { cls:= .type "list_iterator",data:= .fields #[.ref p,.int 0 0] }) (t':=tk) fun b o e=>af _ e
 have hit:aJ H d (o 0) h'.objs.size=none:=I2.hok.fresh (ao _);have hid:h'.objs.size≠d:=fun z=>by rw [z,aB] at hit;cases hit
 have hi0:H h'.objs.size=none:=by rw [aE hid] at hit;exact hit
 refine aj ⟨nc _ (by decide +kernel),?_⟩;refine aE8 (A:=X.A.in1) (Q:=fun r s₂=>r=Value.none/\EP X pins σ Q (.ref d) s₂) (H:=H) (p:=p) (ys:=ys) (o:=o) (by show X.A.units+1+1 < cLine;omega) (show X.A.handled=none from hr.hd) hp hf hi0 hid C (fun s' I'=>⟨rfl,.ref d,_,I',rfl,q⟩) ys.length 0 _ _ ∅ I3 ⟨hit,?_⟩ ⟨_,aq _ rfl,rfl,rfl⟩;exact (I2.fpOk (H':=aJ H d (o 0)) (ao _) hit).2
end
section
variable {prog:Program}{w:World}{K:Type} [DecidableEq K] {knd:KeyKind prog w K}{A:Around}{E:Value->Shared->Prop}{s:Shared}
end
section
variable {X:Cx}
theorem mF:∀ {ps:List Addr}{us:List Value},bB (ps.map V.ref) us->us=ps.map Value.ref
 |[],_,h=>by cases h;rfl
 |p :: r,_,h=>by
  rw [au] at h
  cases h with
  |cons h1 h2=>rw [mF h2,show _=Value.ref p from h1];rfl
end
theorem bM5 {X:Cx}{j:Nat}{p p2:Pos}:PE X (.UnaryOp .USub (.Constant (.int 1) j p) p2) (tC (.int (-1))):=fun pins s σ H Q I h =>
 cB1 (X:=X) bT8 aD pins s σ H Q I ⟨1,rfl,h⟩
section
variable {X:Cx}
def cF4 (t:TS):TS:=fun D σ H=>∃ P:St->Hp->Prop,t { D with nx:=P } σ H/\∀ σ' G,P σ' G->D.nx σ' G
theorem oH {st:Stmt}{t:TS}(h:PS X st t):PS X st (cF4 t):=by
 intro pins s σ H D I ⟨P,h1,h2⟩;refine cO (h pins s σ H _ I h1) fun f s' q=>?_
 cases f with
 |next =>
  obtain ⟨σ',G,I',p⟩:=q;exact ⟨σ',G,I',h2 σ' G p⟩
 |ret v=>exact q
 |brk=>exact q
 |cont=>exact q
end
section
variable {X:Cx}{o e:Expr}{es:List Expr}{to:TE}{t:TA}{name:Str}{apos cpos:Pos}{T id:String}{r:V->List V->Hp->VK->Prop}
end
def cH9 (σ: List Key) (k:Key):Bool:=σ.any fun j=>decide (j=k)
def ddS (σ: List Key) (k:Key):List Key:=if cH9 σ k=true then σ else σ++[k]
def dd (ks:List Key):List Key:=ks.foldl ddS []
section
variable {prog:Program}{w:World}{A:Around}{R:Result->Shared->Prop}{I:Addr}{fp wr:List Addr}{G:Array GenState->Array GenState->Prop}{n:Nat}{P:Nat->Value->Prop}{St:Nat->Shared->Prop}
end
section
variable {prog:Program}{w:World}{A:Around}{E:Value->Shared->Prop}{s:Shared}
end
section
variable {X:Cx}
end
section
variable {prog:Program}{w:World}{A:Around}{E:Value->Shared->Prop}{s:Shared}{a:Addr}{S:Key->Bool}{n:Nat}{led:Bool}
end
section
variable {prog:Program}{w:World}{A:Around}{E:Value->Shared->Prop}{s:Shared}
end
section
variable {prog:Program}{w:World}{A:Around}{E:Value->Shared->Prop}{s:Shared}{a:Addr}{o:Obj}{es:Array (Int×Value)}{ep:Nat}{t:SetTable}
end
section
variable {prog:Program}{w:World}{A:Around}{E:Value->Shared->Prop}{s:Shared}{a it tp:Addr}{o:Obj}{es:Array (Int×Value)}{ep:Nat}{t:SetTable}
theorem nJ {α: Type}{R:α->Shared->Prop}(hh:A.handled=none) (k:∀ e g,(∀ c o,s.heap.get? c=some o->g.get? c=some o)->(∃ oe,g.get? e=some oe/\oe.cls= .type "StopIteration")->E (.ref e) { s with heap:=g }) :
  wpAny (model prog w) A (newExc (.type "StopIteration") [] >>= fun e=>raiseNew (α:=α) e) R E s:=by
 refine aa ?_;simp only [newExc,newTuple];refine aa (gw (aa (m:=firstArgMember _ _) (wpAny_of_eq (a:=Value.none) (by first | rfl | (simp only [firstArgMember];rfl)) (gw ?_ (by size_fits)))) (by size_fits));unfold raiseNew;refine aa (wpAny_handled ?_);rw [hh];refine aa (aj (wpAny_throw (k _ _ (fun c o e=>af _ (af _ e)) ⟨_,aq _ rfl,rfl⟩)))
end
section
variable {prog:Program}{w:World}{A:Around}{E:Value->Shared->Prop}{s:Shared}{a tp:Addr}{o:Obj}{es:Array (Int×Value)}{ep:Nat}{t:SetTable}
end
section
variable {prog:Program}{w:World}{A:Around}{E:Value->Shared->Prop}{s:Shared}{a:Addr}{o:Obj}{es:Array (Int×Value)}{ep:Nat}{t:SetTable}
def cK7 (t:SetTable) (i:Nat):Nat:=match i with
 |0=>0
 |i+1=>t.place.getD i 0+1
end
theorem aQ.draw {X:Cx}{pins:List (Addr×Obj)}{σ: St}{H:Hp}{s:Shared}(I:aQ X pins σ H s) (d':Drawn):aQ X pins σ H { s with drawn:=d' } :=
 ⟨I.ok,I.os,I.bare,I.base,I.loc,I.cell,I.free,I.freeC,I.pin,I.hok,I.len⟩
section
variable {prog:Program}{w:World}{A:Around}{E:Value->Shared->Prop}{s:Shared}{a:Addr}{o:Obj}{es:Array (Int×Value)}{ep:Nat}{t:SetTable}
end
abbrev tk (ts:List Str):List Key:=ts.map Sum.inr
section
variable {prog:Program}{w:World}{A:Around}{R:Result->Shared->Prop}{I:Addr}{fp wr:List Addr}{G:Array GenState->Array GenState->Prop}{n:Nat}{P:Nat->Value->Prop}{St:Nat->Shared->Prop}{led:Bool}
end
section
variable {prog:Program}{w:World}{A:Around}{E:Value->Shared->Prop}{s:Shared}
end
open PySem PySem.Spec PyProof.Rows PySem.W
def dE {α: Type}(n:Nat) (f:Nat->Nat) (R:α->Prop):KasT α->Prop
 |.ret a=>R a
 |.ask i j k=>i < n/\j < n/\dE n f R (k (decide (f i < f j)))
theorem dE.bind {α β: Type}{n:Nat}{f:Nat->Nat}{R:α->Prop}{S:β->Prop}{g:α->KasT β}:∀ {t:KasT α},dE n f R t->(∀ a,R a->dE n f S (g a))->dE n f S (t.bind g)
 |.ret a,h,k=>by rw [KasT.bind.eq_1];exact k a h
 |.ask i j _,h,k=>by rw [KasT.bind.eq_2];exact ⟨h.1,h.2.1,dE.bind h.2.2 k⟩
theorem dE.wp {α: Type}{n:Nat}{f:Nat->Nat}{R:α->Prop}{cmp:Nat->Nat->(Bool->Shared->Prop)->Shared->Prop}{Q:α->Shared->Prop}{s:Shared}(hc:∀ i j C,i < n->j < n->C (decide (f i < f j)) s->cmp i j C s) (hq:∀ a,R a->Q a s):∀ {t:KasT α},dE n f R t->KasT.kasWp cmp t Q s
 |.ret a,h=>by rw [KasT.kasWp.eq_1];exact hq a h
 |.ask i j k,h=>by rw [KasT.kasWp.eq_2];exact hc i j _ h.1 h.2.1 (dE.wp hc hq h.2.2)
theorem dE.yes {α: Type}{n:Nat}{f:Nat->Nat}{R:α->Prop}{i j:Nat}{k:Bool->KasT α}(hi:i < n) (hj:j < n) (c:f i < f j) (h:dE n f R (k true)):dE n f R (.ask i j k):=⟨hi,hj,by rw [ar c];exact h⟩
theorem dE.no {α: Type}{n:Nat}{f:Nat->Nat}{R:α->Prop}{i j:Nat}{k:Bool->KasT α}(hi:i < n) (hj:j < n) (c:¬ f i < f j) (h:dE n f R (k false)):dE n f R (.ask i j k):=⟨hi,hj,by rw [dk c];exact h⟩
theorem dE.mono {α: Type}{n:Nat}{f:Nat->Nat}{R S:α->Prop}(k:∀ a,R a->S a):∀ {t:KasT α},dE n f R t->dE n f S t
 |.ret a,h=>k a h
 |.ask _ _ _,h=>⟨h.1,h.2.1,dE.mono k h.2.2⟩
theorem eI.size {n:Nat}{p:Array Nat}(h:eI n p):p.size=n:=by
 have:=(jy.mp h).length_eq
 simpa using this
theorem eI.inj {n:Nat}{p:Array Nat}(h:eI n p) {i j:Nat}(hi:i < n) (hj:j < n) (e:p.getD i 0=p.getD j 0):i=j:=by
 have z:=h.size;have nd:p.toList.Nodup:=((jy.mp h).nodup_iff).mpr (by simpa using List.nodup_range);have ei:p.getD i 0=p.toList[i]'(by simp [z,hi]):=by simp [Array.getD,z,hi]
 have ej:p.getD j 0=p.toList[j]'(by simp [z,hj]):=by simp [Array.getD,z,hj]
 rw [ei,ej] at e;exact (uf nd).mp e
section
variable {n:Nat}{f:Nat->Nat}
def kk (f:Nat->Nat) (p:Array Nat) (k:Nat):Nat:=f (p.getD k 0)
def Up (f:Nat->Nat) (p:Array Nat) (m:Nat):Prop:=∀ i j,i < j->j < m->kk f p i < kk f p j
def Dn (f:Nat->Nat) (p:Array Nat) (m:Nat):Prop:=∀ i j,i < j->j < m->kk f p j < kk f p i
theorem kY {p q:Array Nat}{i j:Nat}(h:p[i]?=q[j]?):p.getD i 0=q.getD j 0:=by
 rw [xf,xf,h]
theorem aZ8 {p:Array Nat}{j:Nat}(hj:j<=p.size) (k:Nat):kk f (kas_rev p 0 j) k=if k < j then kk f p (j - 1 - k) else kk f p k:=by
 have e:=getElem?_mirror_all (xs:=p) (i:=0) (j:=j) hj k;unfold kk kas_rev
 by_cases c:k < j
 ·rw [bh ⟨df _,c⟩] at e;rw [bh c,kY e];simp
 ·rw [ap fun z=>c z.2] at e;rw [ap c,kY e]
theorem aU1 {p:Array Nat}{x l:Nat}(hx:x < p.size) (hl:l<=x) (k:Nat):kk f (bubble p x (x - l)) k=if k=l then kk f p x else if l < k/\k<=x then kk f p (k - 1) else kk f p k:=by
 have e:=getElem?_bubble (xs:=p) (src:=x) hx (x - l) (Nat.sub_le _ _) k;have s:x - (x - l)=l:=∅
 rw [s] at e;unfold kk
 by_cases c:k=l
 ·rw [bh c] at e;rw [bh c,kY e]
 ·rw [ap c] at e;rw [ap c]
  by_cases d:l < k/\k<=x
  ·rw [bh d] at e;rw [bh d,kY e]
  ·rw [ap d] at e;rw [ap d,kY e]
variable (hf:∀ i j,i < n->j < n->f i=f j->i=j)
include hf
theorem bE2 {p:Array Nat}(h:eI n p) {i j:Nat}(hi:i < n) (hj:j < n) (e:i≠j):kk f p i≠kk f p j:=fun q=>by
 have h0:0 < n:=∅
 exact e (h.inj hi hj (hf _ _ (h.get h0 _) (h.get h0 _) q))
theorem bK5 {p:Array Nat}(h:eI n p) {x:Nat}(u:Up f p x) (x1:1<=x) (xn:x < n) (c:¬ kk f p x < kk f p (x - 1)):Up f p (x+1):=fun i j hij hj=>by
 have:=bE2 hf h xn (show x - 1 < n by omega) ∅
 by_cases e:j=x
 ·rw [e]
  by_cases d:i=x - 1
  ·rw [d];omega
  ·have:=u i (x - 1) ∅ ∅;omega
 ·exact u i j hij ∅
omit hf in
theorem bG9 {p:Array Nat}{x:Nat}(u:Dn f p x) (x1:1<=x) (c:kk f p x < kk f p (x - 1)):Dn f p (x+1):=fun i j hij hj=>by
 by_cases e:j=x
 ·rw [e]
  by_cases d:i=x - 1
  ·rw [d];exact c
  ·have:=u i (x - 1) ∅ ∅;omega
 ·exact u i j hij ∅
theorem bC0 {p:Array Nat}(h:eI n p):∀ (k x:Nat),1<=x->x+k<=n->Up f p x->dE n f (fun r=>x<=r/\r<=x+k/\Up f p r/\(r=x+k\/kk f p r < kk f p (r - 1))) (kas_asc p k x)
 |0,x,x1,xn,u=>by rw [kas_asc.eq_1];exact ⟨ao _,∅,u,.inl rfl⟩
 |k+1,x,x1,xn,u=>by
  have h0:0 < n:=∅
  rw [show k+1=k.succ from rfl,kas_asc.eq_2]
  by_cases c:kk f p x < kk f p (x - 1)
  ·exact dE.yes (h.get h0 _) (h.get h0 _) c (show dE n f _ (KasT.ret x) from ⟨ao _,∅,u,.inr c⟩)
  ·refine dE.no (h.get h0 _) (h.get h0 _) c ?_;show dE n f _ (kas_asc p k (x+1));have ih:=bC0 h k (x+1) ∅ ∅ (bK5 hf h u x1 ∅ c);have e:x+1+k=x+k.succ:=∅
   rw [e] at ih;refine dE.mono ?_ ih;rintro r ⟨a,b,c,d⟩;exact ⟨∅,b,c,d⟩
theorem aW5 {p:Array Nat}(h:eI n p):∀ (k x:Nat),1<=x->x+k<=n->Dn f p x->dE n f (fun r:Array Nat×Nat×Nat=>r.1=p/\r.2.2=0/\1<=r.2.1/\r.2.1<=x+k/\Dn f p r.2.1) (kas_desc k p x 0)
 |0,x,x1,xn,u=>by rw [kas_desc.eq_1];exact ⟨rfl,rfl,x1,ao _,u⟩
 |k+1,x,x1,xn,u=>by
  have h0:0 < n:=∅
  rw [show k+1=k.succ from rfl,kas_desc.eq_2]
  by_cases c:kk f p x < kk f p (x - 1)
  ·refine dE.yes (h.get h0 _) (h.get h0 _) c ?_;show dE n f _ (kas_desc k p (x+1) 0);have ih:=aW5 h k (x+1) ∅ ∅ (bG9 u x1 c);have e:x+1+k=x+k.succ:=∅
   rw [e] at ih;exact ih
  ·refine dE.no (h.get h0 _) (h.get h0 _) c ?_;have:=bE2 hf h (show x < n by omega) (show x - 1 < n by omega) ∅;have d:kk f p (x - 1) < kk f p x:=∅
   exact dE.yes (h.get h0 _) (h.get h0 _) d (show dE n f _ (KasT.ret (p,x,0)) from ⟨rfl,rfl,x1,qr _ _,u⟩)
theorem bW4 {p:Array Nat}(h:eI n p) {x:Nat}(x1:1<=x) (xn:x<=n) (u:Dn f p x):dE n f (fun r:Nat×Array Nat=>eI n r.2/\1<=r.1/\r.1<=n/\Up f r.2 r.1) (kas_tail3 x n p):=by
 rw [kas_tail3.eq_1];have up:Up f (kas_rev p 0 x) x:=fun i j hij hj=>by
  have z:=h.size;rw [aZ8 ∅,aZ8 ∅,bh ∅,bh hj];exact u _ _ ∅ ∅
 refine (bC0 hf (h.rev 0 x) (n - x) x x1 ∅ up).bind ?_;rintro a ⟨h1,h2,h3,_⟩
 exact ⟨h.rev 0 x,∅,∅,h3⟩
theorem bI6 (h0:1<=n) {p:Array Nat}(h:eI n p):dE n f (fun r:Nat×Array Nat=>eI n r.2/\1<=r.1/\r.1<=n/\Up f r.2 r.1) (kas_count n p):=by
 rw [kas_count.eq_1];refine (bC0 hf h (n - 1) 1 (ao _) ∅ fun i j a b=>by omega).bind fun x ⟨h1,h2,h3,h4⟩=>?_
 by_cases c:x=n
 ·rw [bh (by simpa using c)];exact ⟨h,h1,∅,h3⟩
 ·rw [ap (by simpa using c)]
  by_cases d:x > 1
  ·rw [bh d];have q:kk f p 0 < kk f p (x - 1):=h3 0 (x - 1) ∅ ∅;exact dE.yes (h.get h0 _) (h.get h0 _) q (show dE n f _ (KasT.ret (x,p)) from ⟨h,h1,by dsimp only;omega,h3⟩)
  ·rw [ap d,kas_descPart.eq_1];have x1:x=1:=∅
   subst x1;have q:kk f p 1 < kk f p 0:=by
    rcases h4 with e | e
    ·omega
    ·exact e
   have dn:Dn f p 2:=fun i j hij hj=>by
    have a:i=0:=∅
    have b:j=1:=∅
    rw [a,b];exact q
   refine (aW5 hf h (n - (1+1)) (1+1) ∅ ∅ dn).bind fun r hr=>?_
   obtain ⟨p',m,q'⟩:=r;obtain ⟨e1,e2,e3,e4,e5⟩:=hr
   dsimp only at e1 e2 e3 e4 e5 ⊢
   subst e1 e2;rw [ap (ff 0)];exact bW4 hf h e3 ∅ e5
theorem xK {p:Array Nat}(h:eI n p) {k:Nat}(kn:k < n) (u:Up f p k):∀ (g l r:Nat),r - l<=g->l<=r->r<=k->(∀ i,i < l->kk f p i < kk f p k)->(∀ i,r<=i->i < k->kk f p k < kk f p i) ->
  dE n f (fun m=>m<=k/\(∀ i,i < m->kk f p i < kk f p k)/\∀ i,m<=i->i < k->kk f p k < kk f p i) (kas_place p k g l r)
 |0,l,r,hg,lr,rk,a,b=>by
  rw [kas_place.eq_def];have e:l=r:=∅
  exact ⟨∅,a,fun i hi=>b i ∅⟩
 |g+1,l,r,hg,lr,rk,a,b=>by
  have h0:0 < n:=∅
  rw [kas_place.eq_def];show dE n f _ (if l ≥ r then _ else _)
  by_cases c:l ≥ r
  ·rw [bh c];exact ⟨∅,a,fun i hi=>b i ∅⟩
  ·rw [ap c];have m1:(l+r) / 2 < r:=∅
   have m2:l<=(l+r) / 2:=∅
   generalize (l+r) / 2=m at m1 m2 ⊢
   by_cases d:kk f p k < kk f p m
   ·refine dE.yes (h.get h0 _) (h.get h0 _) d ?_;show dE n f _ (kas_place p k g l m);refine xK h kn u g l m ∅ m2 ∅ a fun i hi hk=>?_
    by_cases e:i=m
    ·rw [e];exact d
    ·have:=u m i ∅ hk;omega
   ·refine dE.no (h.get h0 _) (h.get h0 _) d ?_;show dE n f _ (kas_place p k g (m+1) r);refine xK h kn u g (m+1) r ∅ ∅ rk (fun i hi=>?_) b;have:=bE2 hf h (show m < n by omega) kn ∅
    by_cases e:i=m
    ·rw [e];omega
    ·have:=u i m ∅ ∅;omega
theorem bO2:∀ (g:Nat) {p:Array Nat}(x:Nat),eI n p->x+g=n->Up f p x->dE n f (fun q=>eI n q/\Up f q n) (kas_bin g p x)
 |0,p,x,h,e,u=>by
  rw [kas_bin.eq_1];have:x=n:=∅
  subst this;exact ⟨h,u⟩
 |g+1,p,x,h,e,u=>by
  have z:=h.size;rw [show g+1=g.succ from rfl,kas_bin.eq_2];refine (xK hf h (show x < n by omega) u x 0 x ∅ ∅ (ao _) (fun i hi=>by omega) (fun i a b=>by omega)).bind fun l ⟨h1,h2,h3⟩=>?_
  refine bO2 g _ ((bubble_perm p _ _).trans h) ∅ fun i j hij hj=>?_
  rw [aU1 ∅ h1,aU1 ∅ h1];rcases Nat.lt_trichotomy i l with c | c | c
  ·rw [ap ∅,ap ∅];rcases Nat.lt_trichotomy j l with d | d | d
   ·rw [ap ∅,ap ∅];exact u _ _ hij ∅
   ·rw [bh d];exact h2 _ c
   ·rw [ap ∅,bh ∅];exact u _ _ ∅ ∅
  ·rw [bh c,ap ∅,bh ∅];exact h3 _ ∅ ∅
  ·rw [ap ∅,bh ∅,ap ∅,bh ∅];exact u _ _ ∅ ∅
theorem bR8 (h0:1<=n):dE n f (fun q=>eI n q/\Up f q n) (kas_sort n):=by
 unfold kas_sort;refine (bI6 hf h0 (Array.Perm.refl _)).bind ?_;rintro r ⟨h1,h2,h3,h4⟩
 split
 ·rename_i c
  rw [Nat.max_eq_left h2];exact bO2 hf _ _ h1 ∅ h4
 ·rename_i c
  have:r.1=n:=∅
  rw [this] at h4;exact ⟨h1,h4⟩
end
open PySem PySem.Spec PyProof.Rows
section
variable {prog:Program}{w:World}{A:Around}{E:Value->Shared->Prop}{s:Shared}{a:Addr}{S:Key->Bool}{n:Nat}{led:Bool}
end
section
variable {prog:Program}{w:World}{A:Around}{R:Result->Shared->Prop}{I:Addr}{fp wr:List Addr}{G:Array GenState->Array GenState->Prop}{n:Nat}{P:Nat->Value->Prop}{St:Nat->Shared->Prop}{led:Bool}
end
section
variable {prog:Program}{w:World}{A:Around}{E:Value->Shared->Prop}{s:Shared}
end
def tb (m:Nat):SetTable:={ SetTable.fresh 0 0 true with mask:=m }
def Pn (m:Nat) (h:Int):Nat->SetTable.Probe
 |0=>(tb m).probeStart h
 |n+1=>(tb m).advance (Pn m h n)
def bs (m:Nat) (h:Int):Nat->Nat×Nat
 |0=>(SetTable.bits h % (m+1),SetTable.bits h)
 |L+1=>SetTable.leap m (bs m h L).1 (bs m h L).2
def lf (m i:Nat):Nat:=(i * 5+1) % (m+1)
def Own (o:Array (Option Nat)) (x:Nat):Prop:=(o.getD x (some 0)).isNone=false
structure eW (m:Nat) (hs:List Int) (o:Array (Option Nat)):Prop where
 size:o.size=m+1
 perm:((List.range (m+1)).filterMap fun j=>o.getD j none).Perm (List.range hs.length)
 rch:∀ j k h,o.getD j none=some k->hs[k]?=some h->∃ n,(Pn m h n).j=j/\∀ c,c < n->Own o (Pn m h c).j
section
variable {prog:Program}{w:World}{A:Around}{E:Value->Shared->Prop}{s:Shared}{K:Type} [DecidableEq K] {knd:KeyKind prog w K}
variable (knd) in
end
def eO {α: Type}(l:List α) (p:Nat) (x:α):List α:=l.take p++x :: l.drop p
section
variable {prog:Program}{w:World}{A:Around}{E:Value->Shared->Prop}{s:Shared}{K:Type} [DecidableEq K] {knd:KeyKind prog w K}
end
section
variable {prog:Program}{w:World}{A:Around}{K:Type} [DecidableEq K] {knd:KeyKind prog w K}{I:Addr}{fp wr:List Addr}{G:Array GenState->Array GenState->Prop}{n:Nat}{P:Nat->Value->Prop}{St:Nat->Shared->Prop}{R:Result->Shared->Prop}
variable (knd) in
end
section
variable {prog:Program}{w:World}{A:Around}{E:Value->Shared->Prop}{s:Shared}{K:Type} [DecidableEq K] {knd:KeyKind prog w K}
end
def fA (H:Hp) (bs:List Addr) (nss:List (List Int)):Prop:=bs.length=nss.length/\∀ (i:Nat) b ns,bs[i]?=some b->nss[i]?=some ns->H b=some (.tup (ns.map V.int))
theorem nX {ns ms:List Int}(h:ns.map (Sum.inl:Int->Key)=ms.map Sum.inl):ns=ms:=by
 induction ns generalizing ms with
 |nil=>cases ms with | nil=>rfl | cons _ _=>cases h
 |cons x r ih =>
  cases ms with
  |nil=>cases h
  |cons y t =>
   rw [au,au] at h;injection h with h1 h2
   injection h1 with h1
   rw [h1,ih h2]
open PySem PySem.Spec PyProof.Rows PySem.W HT
theorem aK3:∀ a:List Int,HT.lexLt a a=false
 |[]=>rfl
 |x :: r=>by rw [lexLt_cons,bh rfl];exact aK3 r
theorem vL:∀ {a b c:List Int},HT.lexLt a b=true->HT.lexLt b c=true->HT.lexLt a c=true
 |[],[],_,h,_=>by cases h
 |[],_ :: _,[],_,h=>by cases h
 |[],_ :: _,_ :: _,_,_=>rfl
 |_ :: _,[],_,h,_=>by cases h
 |_ :: _,_ :: _,[],_,h=>by cases h
 |x :: a,y :: b,z :: c,h,k=>by
  rw [lexLt_cons] at h k ⊢
  by_cases e:x=y
  ·subst e;rw [bh rfl] at h
   by_cases f:x=z
   ·rw [bh f] at k ⊢;exact vL h k
   ·rw [ap f] at k ⊢;exact k
  ·rw [ap e] at h;have h:=cf h
   by_cases f:y=z
   ·subst f;rw [ap e];exact ar h
   ·rw [ap f] at k;have k:=cf k;rw [ap ∅];exact ar ∅
theorem xA:∀ {a b:List Int},HT.lexLt a b=false->HT.lexLt b a=false->a=b
 |[],[],_,_=>rfl
 |[],_ :: _,h,_=>by cases h
 |_ :: _,[],_,h=>by cases h
 |x :: a,y :: b,h,k=>by
  rw [lexLt_cons] at h k
  by_cases e:x=y
  ·subst e;rw [bh rfl] at h k;rw [xA h k]
  ·rw [ap e] at h;rw [ap (fun z=>e z.symm)] at k;have h:=xg h;have k:=xg k;omega
theorem eG {α: Type}{l:List α}{d:α}{i:Nat}(h:i < l.length):l.getD i d=l[i]:=by simp [List.getD,h]
theorem vP {α: Type}{p q:α->Bool}:∀ {l:List α}{x:α},(∀ y∈l,p y=true->q y=true)->x∈l->q x=true->p x=false->l.countP p < l.countP q
 |y :: r,x,h,m,qx,px=>by
  have hr:∀ y∈r,p y=true->q y=true:=fun z hz=>h z (ba _ hz)
  have le:r.countP p<=r.countP q:=List.countP_mono_left hr;rw [List.countP_cons,List.countP_cons]
  by_cases e:x=y
  ·subst e;rw [qx,px];simp;omega
  ·have m':x∈r:=by
    rcases bo.mp m with z | z
    ·exact absurd z e
    ·exact z
   have ih:=vP hr m' qx px;have hy:=h y bj
   cases hp:p y
   ·simp;omega
   ·rw [hy hp];simp;omega
def rkL (nss:List (List Int)) (i:Nat):Nat:=nss.countP fun y=>HT.lexLt y (nss.getD i [])
theorem bP2 {nss:List (List Int)}{i j:Nat}(hi:i < nss.length) (h:HT.lexLt (nss.getD i []) (nss.getD j [])=true):rkL nss i < rkL nss j:=by
 refine vP (x:=nss.getD i []) (fun y _ hy=>vL hy h) ?_ h (aK3 _);rw [eG hi];exact jz hi
theorem xM {nss:List (List Int)}(nd:nss.Nodup) {i j:Nat}(hi:i < nss.length) (hj:j < nss.length):decide (rkL nss i < rkL nss j)=HT.lexLt (nss.getD i []) (nss.getD j []):=by
 cases h:HT.lexLt (nss.getD i []) (nss.getD j []) with
 |true=>exact ar (bP2 hi h)
 |false =>
  refine dk fun c=>?_
  cases k:HT.lexLt (nss.getD j []) (nss.getD i []) with
  |true=>have:=bP2 hj k;omega
  |false =>
   have e:=xA h k;rw [eG hi,eG hj] at e;have:=(uf nd).mp e;subst this;omega
theorem bU7 {nss:List (List Int)}(nd:nss.Nodup) (i j:Nat) (hi:i < nss.length) (hj:j < nss.length) (e:rkL nss i=rkL nss j):i=j:=by
 have a:=xM nd hi hj;have b:=xM nd hj hi;rw [e,dk (ff _)] at a b;have e:=xA a.symm b.symm;rw [eG hi,eG hj] at e;exact (uf nd).mp e
def cD6 (h:Heap) (bs:List Addr) (nss:List (List Int)):Prop:=bs.length=nss.length/\∀ (i:Nat),i < bs.length->∃ its,IsTup h (bs.getD i 0) its/\IntsAre its.toList (nss.getD i [])
section
variable {prog:Program}{w:World}{A:Around}{E:Value->Shared->Prop}{s:Shared}
theorem bP4 {b fin:Bool}{Q:Bool->Shared->Prop}(hu:A.units < cLine) {us vs:List Value}{ns ms:List Int}(i:Nat) (p:IntsAre us ns) (p2:IntsAre vs ms) (e:fin=decide (us.length < vs.length)) (q:Q (HT.lexLt ns ms) s):KatLex prog w A b fin Q (us.zip vs) i s:=by
 induction p generalizing vs ms i with
 |nil=>cases p2 <;> (subst e;exact kat_nil q)
 |cons x t r ih=>
  cases p2 with
  |nil=>
   subst e
   exact kat_nil q
  |cons y u r'=>
   rw [xb];refine kat_cons (aBp x t y u prog w _ _ ?_);rw [lexLt_cons] at q;rw [KatGo.eq_1]
   by_cases c:x=y
   ·rw [bh c] at q;rw [bh (by simpa using c)];exact ih (i+1) r' (by simpa using e) q
   ·rw [ap c] at q;rw [ap (by simpa using c)]
    cases hb:(b && i == 0)
    ·exact kat_one _ _ (aBf q)
    ·exact kat_lt_int q
theorem cH7 {a c:Addr}{its jts:Array Value}{ns ms:List Int}{κ: SortKind}{Q:Bool->Shared->Prop}(hu:A.units+1 < cLine) (hx:IsTup s.heap a its) (ix:IntsAre its.toList ns) (hy:IsTup s.heap c jts) (iy:IntsAre jts.toList ms) (hk:κ=general'\/κ=oneType'\/∃ b,κ=tuples' b) (hQ:Q (HT.lexLt ns ms) s) :
  wpAny (model prog w) A (keyLt' κ (.ref a) (.ref c)) Q E s:=by
 rcases hk with rfl | rfl | ⟨b,rfl⟩
 ·exact kat_one _ _ (lt_tupInts hx hy ix iy ∅ hQ)
 ·show wpAny _ _ (oneLt' true _ _) _ _ _;rw [oneLt'_eq];refine aa (wpAny_cRoomFor ∅ ?_);obtain ⟨⟨cls,dd,data,sl⟩,ho,hc,n,hd⟩:=id hx;obtain ⟨⟨cls2,dd2,data2,sl2⟩,ho2,hc2,n2,hd2⟩:=id hy;simp only at hc hd hc2 hd2;subst hc hd hc2 hd2;refine aa (wpAny_callSpecialIfBound?_slot (T:="tuple") ⟨_,ho,rfl⟩ uj (vf uj ⟨_,ho,rfl⟩ zn (yu _ _) (mU a c its jts n n2 dd dd2 sl sl2 ns ms ix iy) ⟨ho,ho2,?_⟩));exact jl hQ
 ·obtain ⟨o,ho,hc,n,hd⟩:=id hx;obtain ⟨o2,ho2,hc2,n2,hd2⟩:=id hy;exact kat_lt ho hd ho2 hd2 (bP4 ∅ 0 ix iy (by simp) hQ)
def iU (bs:List Addr) (p:List Nat):List Addr:=p.map fun i=>bs.getD i 0
def mR (nss:List (List Int)) (p:List Nat):List (List Int):=p.map fun i=>nss.getD i []
theorem kL {α: Type}(l:List α) (d:α):(List.range l.length).map (fun i=>l.getD i d)=l:=by
 apply List.ext_getElem
 ·simp
 ·intro i h1 h2;simp [List.getD,h2]
theorem cE9 {nss:List (List Int)}(nd:nss.Nodup) {p:Array Nat}(hp:eI nss.length p) (u:Up (rkL nss) p nss.length):(mR nss p.toList).Pairwise fun a b=>HT.lexLt a b=true:=by
 unfold mR;rw [tm,rl];intro i j hi hj hij;have z:=hp.size;rw [jc] at hi hj;have h0:0 < nss.length:=∅
 have a:=u i j hij ∅;have b:=xM nd (hp.get h0 i) (hp.get h0 j);rw [ar (show rkL nss (p.getD i 0) < rkL nss (p.getD j 0) from a)] at b;have ei:p.toList[i]=p.getD i 0:=by simp [Array.getD,hi]
 have ej:p.toList[j]=p.getD j 0:=by simp [Array.getD,hj]
 rw [ei,ej];exact b.symm
theorem bC5 {bs:List Addr}{p:Array Nat}(hp:eI bs.length p):(p.toList.map fun i=>(bs.map Value.ref).getD i Value.none)=(iU bs p.toList).map Value.ref:=by
 unfold iU;rw [cz];refine ik fun i hi=>?_
 have hi:i < bs.length:=by
  have:=(jy.mp hp).mem_iff.mp hi
  simpa using this
 simp [List.getD,hi]
theorem aG2 {a:Addr}{bs:List Addr}{nss:List (List Int)}{n:Nat}{P:PySem.Fin->Shared->Prop}(hu:A.units+1 < cLine) (hl:s.heap.get? a=some (seqObj "list" (bs.map Value.ref).toArray n)) (hn:bs.length < 64) (ht:cD6 s.heap bs nss) (nd:nss.Nodup) (hc:∀ b∈bs,b≠a)
  (q:∀ (h':Heap) (p:List Nat) (c:Nat),(∀ b o,b≠a->s.heap.get? b=some o->h'.get? b=some o)->h'.get? a=some (seqObj "list" ((iU bs p).map Value.ref).toArray c)->p.Perm (List.range bs.length)->(mR nss p).Pairwise (fun a b=>HT.lexLt a b=true)->P (Fin.done (Flow.ret Value.none)) { s with heap:=h' }) :
  wpAny (model prog w) A (Builtin.«list.sort» { pos:=[Value.ref a] }) P E s:=by
 obtain ⟨vs,hv⟩:∃ vs,vs=bs.map Value.ref:=⟨_,rfl⟩
 have vl:vs.length=bs.length:=by rw [hv,ae]
 rw [<- hv] at hl;have la:=bi hl;have zs:vs.length<=sizeLine:=iz (aH ∅);have zs2:vs.toArray.size<=sizeLine:=by rw [cv];exact zs
 rw [list_sort_plain];refine aa (listItems_at hl rfl ?_);refine aa (aBc hl rfl ?_ zs2 (by show (0:Nat)<=_;omega));have hl1:=yz hl fun _=> #[]
 have k1:∀ b o,b≠a->s.heap.get? b=some o->(s.heap.update a (Obj.mapSeq fun _=> #[])).get? b=some o:=fun b o hb e=>by
  rw [jt _ _ _ _ hb];exact e
 generalize s.heap.update a (Obj.mapSeq fun _=> #[])=h1 at hl1 k1 ⊢;refine aa (aCb hl1 rfl ?_);refine aa (aAg ?_ zs);refine aa (wpAny_newList ?_ (df _));have k2:∀ b o,h1.get? b=some o->((h1.push { cls:= .type "tuple",data:= .seq vs.toArray }).push { cls:= .type "list",data:= .seq ([]:List Value).toArray }).get? b=some o:=fun b o e=>af _ (af _ e)
 dsimp only
 generalize ((h1.push { cls:= .type "tuple",data:= .seq vs.toArray }).push { cls:= .type "list",data:= .seq ([]:List Value).toArray })=h2 at k2 ⊢;have hl2:=k2 _ _ hl1;have ht2:∀ i,i < bs.length->∃ its,IsTup h2 (bs.getD i 0) its/\IntsAre its.toList (nss.getD i []):=fun i hi=>by
  obtain ⟨its,⟨o,ho,r⟩,ix⟩:=ht.2 i hi;exists its,⟨o,k2 _ _ (k1 _ _ (hc _ ?_) ho),r⟩,ix;rw [eG hi];exact jz hi
 refine fg ?_
 by_cases c:vs.length < 2
 ·rw [bh (by simpa using c)];refine aa (aj ?_);rw [bh (by simpa using c)];refine aa (aj ?_);have f:failedOf (SortSt.mk' general' (vs.toArray.zip vs.toArray) #[] 7 none)=none:=rfl;have e:Array.map (fun x=>x.snd) (arrOf (SortSt.mk' general' (vs.toArray.zip vs.toArray) #[] 7 none))=((iU bs (List.range bs.length)).map Value.ref).toArray:=by
   show Array.map (fun x=>x.snd) (vs.toArray.zip vs.toArray)=_;unfold iU;rw [kL, <- hv]
   apply Array.ext
   ·simp
   ·intro i h1 h2;simp
  have pw:(mR nss (List.range bs.length)).Pairwise (fun a b=>HT.lexLt a b=true):=by
   unfold mR;rw [ht.1,kL];have:nss.length < 2:=by rw [<- ht.1];omega
   rw [rl];intro i j hi hj hij;omega
  refine aa (aCb hl2 rfl ?_);refine aa (aBc hl2 rfl ?_ (df _) (by dsimp only;rw [e,cv,ae];unfold iU;rw [ae,xr];omega))
  try rw [f]
  try dsimp only
  rw [ap (by simp)];refine aj ?_;have hl3:=yz hl2 fun _=>Array.map (fun x=>x.snd) (arrOf (SortSt.mk' general' (vs.toArray.zip vs.toArray) #[] 7 none))
  refine q _ _ _ (fun b o hb e0=>?_) (by rw [<- e];exact hl3) (List.Perm.refl _) pw;rw [jt _ _ _ _ hb];exact k2 _ _ (k1 _ _ hb e0)
 ·rw [ap (by simpa using c)];refine aa (bB9 (vs:=vs) (fun v hv'=>?_) fun κ hk=>?_)
  ·rw [hv] at hv';obtain ⟨b,hb,rfl⟩:=am.mp hv';obtain ⟨i,hi,e⟩:=ki.mp hb;obtain ⟨its,x1,x2⟩:=ht2 i hi;rw [eG hi,e] at x1;exact ⟨b,its,_,rfl,x1,x2⟩
  rw [ap (by simpa using c)];refine aa ?_;refine gh (kat_run (ks:=vs) (vs:=vs) (Q:=fun st s'=>s'={ s with heap:=h2 }/\failedOf st=none/\∃ p:List Nat,Array.map (fun x=>x.snd) (arrOf st)=((iU bs p).map Value.ref).toArray/\p.Perm (List.range bs.length)/\(mR nss p).Pairwise (fun a b=>HT.lexLt a b=true)) (G:=fun p s'=>s'={ s with heap:=h2 }/\eI bs.length p/\Up (rkL nss) p bs.length) rfl ∅ ∅ (fun p st s' hp ha hf hG=>⟨hG.1,hf,p.toList,by rw [kat_snds rfl ha,hv,bC5 hG.2.1],by have:=jy.mp hG.2.1;simpa using this,cE9 nd (by rw [<- ht.1];exact hG.2.1) (by rw [<- ht.1];exact hG.2.2)⟩) ?_) ?_ (fun _ _ h=>h)
  rotate_left
  ·rintro ⟨_,st⟩ s' ⟨rfl,f,p,e,pm,pw⟩
   dsimp only at f e ⊢
   refine aa (aCb hl2 rfl ?_);refine aa (aBc hl2 rfl ?_ (df _) (by show (Array.map (fun x=>x.snd) (arrOf st)).size<=_;rw [e,cv,ae];unfold iU;rw [ae,pm.length_eq,xr];omega))
   try rw [f]
   dsimp only
   rw [ap (by simp)];refine aj ?_;have hl3:=yz hl2 fun _=>Array.map (fun x=>x.snd) (arrOf st)
   refine q _ p _ (fun b o hb e0=>?_) (by rw [<- e];exact hl3) pm pw;rw [jt _ _ _ _ hb];exact k2 _ _ (k1 _ _ hb e0)
  ·rw [vl];have hz:=ht.1;refine dE.wp (n:=bs.length) (f:=rkL nss) (fun i j C hi hj hC=>?_) (fun p hp=>⟨rfl,hp⟩) (bR8 (fun i j hi hj=>bU7 nd i j ∅ ∅) ∅);unfold kas_ask;obtain ⟨its,x1,x2⟩:=ht2 i hi;obtain ⟨jts,y1,y2⟩:=ht2 j hj;rw [xM nd ∅ ∅] at hC;have ei:vs.getD i Value.none= .ref (bs.getD i 0):=by rw [hv];simp [List.getD,hi]
   have ej:vs.getD j Value.none= .ref (bs.getD j 0):=by rw [hv];simp [List.getD,hj]
   rw [ei,ej];exact cH7 hu x1 x2 y1 y2 hk hC
end
open PySem PySem.Spec PyProof.Rows
section
variable {X:Cx}{k:Nat}
end
open PySem PySem.Spec PyProof.Rows PySem.W HT
theorem tS {bs:List Addr}{p:List Nat}(h:p.Perm (List.range bs.length)):(iU bs p).Perm bs:=by
 have:=h.map fun i=>bs.getD i 0
 rw [kL] at this;exact this
theorem aE4 {nss:List (List Int)}{p:List Nat}(h:p.Perm (List.range nss.length)):(mR nss p).Perm nss:=by
 have:=h.map fun i=>nss.getD i []
 rw [kL] at this;exact this
theorem fA.pick {H:Hp}{bs:List Addr}{nss:List (List Int)}(t:fA H bs nss) {p:List Nat}(h:p.Perm (List.range bs.length)):fA H (iU bs p) (mR nss p):=by
 exists by unfold iU mR;rw [ae,ae],fun i b ns h1 h2=>?_;unfold iU at h1;unfold mR at h2;rw [cp] at h1 h2;obtain ⟨j,hj,rfl⟩:=ju.mp h1;rw [hj] at h2
 cases h2
 have lj:j < bs.length:=by
  have:=h.mem_iff.mp (bq hj)
  simpa using this
 have ln:=t.1;refine t.2 j _ _ ?_ ?_
 ·rw [eG lj];exact ak lj
 ·dsimp only;rw [eG ∅];exact ak ∅
section
variable {X:Cx}{k:Nat}
theorem bK1 {pins:List (Addr×Obj)}{σ: St}{H:Hp}{s:Shared}{bs:List Addr}{nss:List (List Int)}(I:aQ X pins σ H s) (t:fA H bs nss):cD6 s.heap bs nss:=by
 exists t.1,fun i hi=>?_;have ln:=t.1;have ha:=t.2 i bs[i] nss[i] (ak hi) (ak ∅);obtain ⟨jts,rj,tp,_⟩:=I.tuple (aT.of ha);rw [eG hi,eG ∅];exact ⟨jts.toArray,tp,kA (by simpa using rj)⟩
theorem aG4 {pins:List (Addr×Obj)}{σ: St}{H:Hp}{s:Shared}{Q:VK}{h':Heap}{d':Drawn}{t:Nat}{bs:List Addr}{nss:List (List Int)}(hr:bU k X.A) (I:aQ X pins σ H s) (ht:fA H bs nss) (nd:nss.Nodup) (h64:bs.length < 64) (keep:∀ b o,s.heap.get? b=some o->h'.get? b=some o) (le:s.heap.objs.size<=h'.objs.size)
  (q:∀ (bs':List Addr) (nss':List (List Int)),bs'.Perm bs->nss'.Perm nss->fA H bs' nss'->nss'.Pairwise (fun a b=>HT.lexLt a b=true)->∀ l,H l=none->Q (.ref l) (aJ H l (.lst (bs'.map V.ref)))) :
  wpAny (model X.prog X.w) X.A.in1 (newList (bs.map Value.ref) >>= fun l=>holding [l] (call (.builtin "list.sort") [l] []) >>= fun _=>ret l) (fun fin s'=>∃ v,fin= .done (.ret v)/\EP X pins σ Q v s') X.xe { s with heap:=h',drawn:=d',toks:=t }:=by
 refine aa (wpAny_newList ?_ (by rw [qz,ae];omega));have un:=hr.units;have hoL:(h'.push (seqObj "list" (bs.map Value.ref).toArray 0)).get? h'.objs.size=some (seqObj "list" (bs.map Value.ref).toArray 0):=aq _ rfl;have tc:=bK1 I ht;have k2:∀ b o,s.heap.get? b=some o->(h'.push (seqObj "list" (bs.map Value.ref).toArray 0)).get? b=some o:=fun b o z=>af _ (keep b o z)
 refine aa (fg (eh slot_list_sort ⟨_,hoL,rfl⟩ entry_list_sort (aG2 (nss:=nss) (by show X.A.units+1+1+1 < cLine;omega) hoL h64 ⟨tc.1,fun i hi=>?_⟩ nd (fun b hb z=>?_) fun h'' p c k3 hD pm pw=>⟨_,rfl,?_⟩) (args_list_sort _)))
 ·obtain ⟨its,⟨o,ho,r⟩,ix⟩:=tc.2 i hi;exact ⟨its,⟨o,k2 _ _ ho,r⟩,ix⟩
 ·obtain ⟨i,hi,e⟩:=ki.mp hb;obtain ⟨its,⟨o,ho,r⟩,ix⟩:=tc.2 i hi;rw [eG hi,e,z] at ho;exact absurd (bi ho) (vg.mpr le)
 ·refine aj ⟨_,rfl,?_⟩;exists .ref h'.objs.size,_,(I.draw d').laid (t':=t) (o:= .lst ((iU bs p).map V.ref)) (fun b o z=>k3 b o (fun e=>absurd (bi z) (by rw [e];exact vg.mpr le)) (k2 b o z)) le ?_,rfl,q _ _ (tS pm) (aE4 (by rw [<- ht.1];exact pm)) (ht.pick pm) pw _ (I.hok.fresh le);exists ?_,(iU bs p).map Value.ref,c,mF _,hD;rw [ae,(tS pm).length_eq];exact iz (aH ∅)
where mF:∀ bs:List Addr,bB (bs.map V.ref) (bs.map Value.ref)
 |[]=> .nil
 |b :: r=> .cons rfl (mF r)
theorem zG (hr:bU k X.A):dL X (.builtin "sorted") (fun xs H Q=>∃ (p:Addr) (bs:List Addr) (nss:List (List Int)),xs=[.ref p]/\bK X.K H p (bs.map V.ref)/\bs.length < 64/\fA H bs nss/\nss.Nodup /\
  ∀ (bs':List Addr) (nss':List (List Int)),bs'.Perm bs->nss'.Perm nss->fA H bs' nss'->nss'.Pairwise (fun a b=>HT.lexLt a b=true)->∀ l,H l=none->Q (.ref l) (aJ H l (.lst (bs'.map V.ref)))):=by
 intro pins s σ H xs us Q I r h;obtain ⟨p,bs,nss,rfl,hq,hz,ht,nd,q⟩:=h;obtain ⟨u,rfl,ru⟩:=gT r
 cases ru
 obtain ⟨its,rv,pl,_⟩:=I.list hq;have e:its=bs.map Value.ref:=refs_of rv;subst e;refine Calls.call_function_entry kind_sorted plain_sorted entry_sorted (args_sorted1 _) ?_;unfold Builtin.«sorted»;refine aa (m:=checkCount "sorted" 1 1 _) (aj ?_);refine aa (collect_list pl.isList ?_ (by rw [qz,ae];omega));refine aG4 (d':=s.drawn) (t:=s.toks) hr I ht nd hz (fun b o e=>?_) ?_ q
 ·rw [jt _ _ _ _ (cw (bi e))];exact af _ e
 ·rw [Heap.size_update,size_push'];omega
where refs_of:∀ {bs:List Addr}{us:List Value},bB (bs.map V.ref) us->us=bs.map Value.ref
 |[],_,h=>by cases h;rfl
 |b :: r,_,h=>by
  rw [au] at h
  cases h with
  |cons h1 h2 =>
   cases h1
   rw [refs_of h2];rfl
end
open PySem PySem.Spec PyProof.Rows
theorem nQ:entryFor table "dict_keyiterator.__next__"=some Builtin.«dict_keyiterator.__next__» :=yi (by kernel_rfl)
theorem xL:entryFor table "dict.__iter__"=some Builtin.«dict.__iter__» :=yi (by kernel_rfl)
section
variable {prog:Program}{w:World}{A:Around}{E:Value->Shared->Prop}{s:Shared}{d it:Addr}{o:Obj}{es:Array DictEntry}{ep i:Nat}
theorem aY0 {e:DictEntry}{Q:Option Value->Shared->Prop}(hit:s.heap.IsKeyIter it d i es.size ep) (h1:s.heap.get? d=some o) (h3:o.data= .dict es ep) (he:es[i]?=some e)
  (hQ:∀ h',h'.IsKeyIter it d (i+1) es.size ep->Heap.SameBut it s.heap h'->Q (some e.key) { s with heap:=h' }):wpAny (model prog w) A (pyNext (.ref it)) Q E s:=by
 obtain ⟨oi,ho,hc,hd⟩:=id hit;unfold pyNext;refine aa (oh (fm (name:=Str.ofString "__next__") hit.typeIs mh (eh mh hit.typeIs nQ ?_ (vt _))));refine (show wpAny _ _ (Builtin.Dict_items.slot0 "__next__" ⟨[.ref it],[]⟩ >>= _) _ _ _ from aa ?_);unfold Builtin.Dict_items.slot0 slotArgs;simp only [List.isEmpty_nil,Bool.not_true,Bool.false_eq_true,if_false,bind_assoc,List.length_nil,bne_self_eq_false];refine aa (aj (aj (aa ?_)));refine (show wpAny _ _ ((typeNameOfWhole (.ref it) >>= fun _=>_) >>= fun _=>_) _ _ _ from aa (aa (kq hit.typeIs (aj ?_))));refine aa (ql ho hd ?_)
 dsimp only
 refine (show wpAny _ _ (dictEntries d >>= fun _=>_) _ _ _ from aa (io h1 h3 ?_));rw [ap (by simp)];refine (show wpAny _ _ (dictEpoch d >>= fun _=>_) _ _ _ from aa (jp h1 h3 ?_));rw [ap (by simp)];refine aj ?_;refine (show wpAny _ _ (match if (i:Int) < 0 then none else es[(i:Int).toNat]? with | some e=>_ | none=>_) _ _ _ from ?_);rw [ap ∅,dw,he]
 dsimp only
 refine (show wpAny _ _ ((typeNameOfWhole (.ref it) >>= fun _=>_) >>= fun _=>_) _ _ _ from aa (aa (kq hit.typeIs (aj ?_))));refine aa (aAh hit.typeIs ?_);refine aa (pf ho hd (by show (1:Nat) < 4;decide) ?_);have hit':(s.heap.update it (Obj.mapFields (·.setIfInBounds 1 (rawInt ((i:Int)+1))))).IsKeyIter it d (i+1) es.size ep :=
  ⟨_,kd _ ho (uo (ng hd _)),(xq ..).trans hc,by rw [ng hd];simp [rawInt]⟩
 refine aa (fg ?_);refine (show wpAny _ _ (Builtin.Dict_items.isOneOf (.ref it) _ >>= fun _=>_) _ _ _ from aa (aAh (s:={ s with heap:=s.heap.update it (Obj.mapFields (·.setIfInBounds 1 (rawInt ((i:Int)+1)))) }) hit'.typeIs ?_));refine (show wpAny _ _ (pure e.key) _ _ _ from aj ?_);exact aj ⟨_,rfl,aj (hQ _ hit' (jr ..))⟩
theorem bG0 {Q:Option Value->Shared->Prop}(hh:A.handled=none) (hit:s.heap.IsKeyIter it d i es.size ep) (h1:s.heap.get? d=some o) (h3:o.data= .dict es ep) (he:es[i]?=none)
  (hQ:∀ h',(∀ c u,c≠it->s.heap.get? c=some u->h'.get? c=some u)->Q none { s with heap:=h' }):wpAny (model prog w) A (pyNext (.ref it)) Q E s:=by
 obtain ⟨oi,ho,hc,hd⟩:=id hit;unfold pyNext;refine aa (oh (fm (name:=Str.ofString "__next__") hit.typeIs mh (eh mh hit.typeIs nQ ?_ (vt _))));refine (show wpAny _ _ (Builtin.Dict_items.slot0 "__next__" ⟨[.ref it],[]⟩ >>= _) _ _ _ from aa ?_);unfold Builtin.Dict_items.slot0 slotArgs;simp only [List.isEmpty_nil,Bool.not_true,Bool.false_eq_true,if_false,bind_assoc,List.length_nil,bne_self_eq_false];refine aa (aj (aj (aa ?_)));refine (show wpAny _ _ ((typeNameOfWhole (.ref it) >>= fun _=>_) >>= fun _=>_) _ _ _ from aa (aa (kq hit.typeIs (aj ?_))));refine aa (ql ho hd ?_)
 dsimp only
 refine (show wpAny _ _ (dictEntries d >>= fun _=>_) _ _ _ from aa (io h1 h3 ?_));rw [ap (by simp)];refine (show wpAny _ _ (dictEpoch d >>= fun _=>_) _ _ _ from aa (jp h1 h3 ?_));rw [ap (by simp)];refine aj ?_;refine (show wpAny _ _ (match if (i:Int) < 0 then none else es[(i:Int).toNat]? with | some e=>_ | none=>_) _ _ _ from ?_);rw [ap ∅,dw,he]
 dsimp only
 refine (show wpAny _ _ ((typeNameOfWhole (.ref it) >>= fun _=>_) >>= fun _=>_) _ _ _ from aa (aa (kq hit.typeIs (aj ?_))));refine aa (pf ho hd (by show (0:Nat) < 4;decide) ?_);refine nJ (show A.in1.handled=none from hh) fun e g kp ex=>?_
 obtain ⟨oe,e1,e2⟩:=ex;refine aa (mf (T:="StopIteration") (b:=true) ⟨oe,e1,e2⟩ wq ?_);exact aj (hQ _ fun c u hc e=>kp c u (by rw [jt _ _ _ _ hc];exact e))
theorem bB4 {Q:Value->Shared->Prop}(ns:(d == sysModules)=false) (h1:s.heap.get? d=some o) (h2:o.ExactDict) (h3:o.data= .dict es ep)
  (h:Q (.ref s.heap.objs.size) { s with heap:=s.heap.push { cls:= .type "dict_keyiterator",data:= .fields #[.ref d,.int 0 0,.int (es.size:Nat) 0,.int (ep:Nat) 0] } }):wpAny (model prog w) A (pyIter (.ref d)) Q E s:=by
 have hT:s.TypeIs (.ref d) "dict":=⟨o,h1,h2.1⟩
 refine xu hT F.slot_dict_iter (eh F.slot_dict_iter hT xL ?_ (F.args_dict_iter_1 _));unfold Builtin.«dict.__iter__» Builtin.Dict.dictSlotNone;simp only [bind_assoc];refine aa (je hT ?_);unfold slotArgs;simp only [List.isEmpty_nil,Bool.not_true,Bool.false_eq_true,if_false,bind_assoc,List.length_nil,bne_self_eq_false];refine aa (aj (aa (aj ?_)));refine (show wpAny _ _ (pure d >>= fun _=>_) _ _ _ from aa (aj ?_));unfold Builtin.Dict.showsAll;rw [ns,ap (by decide)];refine aa (aj ?_);refine aa (io h1 h3 ?_);refine aa (jp h1 h3 ?_);refine aa ?_;unfold newFields;refine gw (aj ⟨_,rfl,"dict_keyiterator",_,⟨_,aq _ rfl,rfl⟩,F.slot_dict_keyiterator_next.lookup,h⟩)
end
theorem aQ.freezeT {X:Cx}{pins:List (Addr×Obj)}{σ: St}{H:Hp}{s:Shared}{d:Addr}{o:Obj}{kvs:List (List Key×V)}(I:aQ X pins σ H s) (h:H d=some (.dT kvs)) (ho:s.heap.get? d=some o) :
  aQ X pins σ (aJ H d (.frz o (.dT kvs))) s:=by
 have nd:∀ b u,H b=some u->(∀ z,u≠ .dT z)->b≠d:=fun b u e hu z=>by
  rw [z,h] at e;exact hu _ (dm e).symm
 refine I.step (g':=s.gens) (d':=s.drawn) (t':=s.toks) (h':=s.heap) (ch:=[]) (fun _ z=>nomatch z) (fun b u _ _ _ e _=>e) (fun b u _ _ _ e _=>⟨u.slots,e⟩) (fun b u _ e n=>by rw [aE (fun z=>by rw [z,h] at n;cases n)];exact n)
  (fun b u _ e=>⟨u,e⟩) (fun b xs e=>by rw [aE (nd b _ e (by intro z c;cases c))];exact e) (fun b u v e=>by rw [aE (nd b _ e (by intro z c;cases c))];exact e)
  (fun b ps e=>⟨#[],by rw [aE (nd b _ e (by intro z c;cases c)),e];simp⟩) (fun m hm=>hm) (fun b u e=>?_) I.bare
 by_cases hb:b=d
 ·subst hb;rw [aB] at e
  cases e
  exists ho,?_;exact (show bO X.prog X.w H s.heap b (.dT kvs) from I.hok b _ h).stay (fun c v _ q=>q) (fun c q=>by rw [aE (nd c _ q (by intro z w;cases w))];exact q) fun c xs q=>by rw [aE (nd c _ q (by intro z w;cases w))];exact q
 ·rw [aE hb] at e;exact (I.hok b u e).stay (fun c v _ q=>q) (fun c q=>by rw [aE (nd c _ q (by intro z w;cases w))];exact q) fun c xs q=>by rw [aE (nd c _ q (by intro z w;cases w))];exact q
def bH1 (d:Addr) (o:Obj) (kvs:List (List Key×V)):It :=
 ⟨fun i H=>i < kvs.length/\H d=some (.frz o (.dT kvs)),fun i H x H'=>H'=H/\∃ k v b,kvs[i]?=some (k,v)/\H b=some (.tup (k.map kV))/\x= .ref b,fun i H=>kvs.length<=i/\H d=some (.frz o (.dT kvs))⟩
theorem lO {α β: Type}{F:α->β->Prop}{l:List α}{m:List β}{i:Nat}{a:α}(h:Paired F l m) (e:l[i]?=some a):∃ b,m[i]?=some b/\F a b:=by
 induction h generalizing i with
 |nil=>simp at e
 |cons r t ih=>
  cases i with
  |zero=>
   simp at e;subst e;exact ⟨_,by simp,r⟩
  |succ i=>
   obtain ⟨u,e1,e2⟩:=ih (i:=i) (by simpa using e);exact ⟨u,by simpa using e1,e2⟩
theorem xV {X:Cx}{pins:List (Addr×Obj)}{σ: St}{H:Hp}{s:Shared}{d:Addr}{o:Obj}{kvs:List (List Key×V)}{es:Array DictEntry}{ep:Nat}(I:aQ X pins σ H s) (ho:o.data= .dict es ep) (h:H d=some (.frz o (.dT kvs))) :
  s.heap.get? d=some o/\o.ExactDict/\(d == sysModules)=false/\es.size=kvs.length/\∀ (i:Nat) (k:List Key) (v:V),kvs[i]?=some (k,v)->∃ (e:DictEntry) (b:Addr),es[i]?=some e/\e.key= .ref b/\H b=some (.tup (k.map kV)):=by
 obtain ⟨e,z,ns,xs,rel,o',es',ep',h1,h2,h3,h4,h5⟩:=(show bO X.prog X.w H s.heap d (.frz o (.dT kvs)) from I.hok d _ h)
 rw [e] at h1
 cases h1
 rw [ho] at h3
 cases h3
 exists e,h2,ns,?_,fun i k v hk=>?_
 ·rw [<- jc,h4,ae,gj rel]
 ·obtain ⟨q,hq,r⟩:=lO rel hk;exists _,q.2.1,by rw [<- gu,h4,cp,hq];rfl,rfl,r.2.1
theorem aF7 {P:Program}{w:World}{K:W.Frag}{tg:Expr}(d it:Addr) (o:Obj) (kvs:List (List Key×V)) {es:Array DictEntry}{ep:Nat}(ho:o.data= .dict es ep) :
  uF P w K tg (bH1 d o kvs) [it] it (fun i h=>i<=kvs.length/\h.IsKeyIter it d i kvs.length ep) where
 mem:=by simp
 obj:=fun i h st b hb=>by
  have e:b=it:=by simpa using hb
  subst e;obtain ⟨o,e,c,q⟩:=st.2;exact ⟨o,e,fun v z=>by rw [q] at z;cases z⟩
 keep:=fun i h h' st k=>⟨st.1,st.2.at fun o e=>k it (by simp) o e⟩
 item:=by
  intro X hP hw hK hc i pins s σ H E I hf st hg;subst hP hw hK;obtain ⟨hi,hd⟩:=hg;obtain ⟨f0,f1,f2,f3,f4,f5⟩:=hf it (by simp);obtain ⟨h1,h2,ns,sz,at'⟩:=xV I ho hd;obtain ⟨e,b,he,kb,hb⟩:=at' i kvs[i].1 kvs[i].2 (by simp [hi]);have st2:=st.2;rw [<- sz] at st2;refine aY0 st2 h1 ho he fun h' st' sb=>?_
  have I1:aQ X pins σ H { s with heap:=h' }:=I.turned (t':=s.toks) (fun b o hb e=>(sb.2 b hb).trans e) f0 f1 f3 f4 f5;obtain ⟨o2,e2,c2,d2⟩:=id st';rw [sz] at st';exists e.key,rfl,go_of (s:={ s with heap:=h' }) e2 c2 d2 (by decide) ⟨.ref b,H,I1,kb,⟨rfl,kvs[i].1,kvs[i].2,b,by simp [hi],hb,rfl⟩,⟨hi,st'⟩,fun b hb=>(hf b hb).1⟩
 done:=by
  intro X hP hw hK hc i pins s σ H E I hf st hg;subst hP hw hK;obtain ⟨hi,hd⟩:=hg;obtain ⟨f0,f1,f2,f3,f4,f5⟩:=hf it (by simp);obtain ⟨h1,h2,ns,sz,at'⟩:=xV I ho hd;have st2:=st.2;rw [<- sz] at st2;exact bG0 (I.ok.hd hc) st2 h1 ho (qf ∅) fun h' eb=>⟨rfl,I.turned (t':=s.toks) (fun b o hb e=>eb b o hb e) f0 f1 f3 f4 f5⟩
 self:=fun _ _ _ _ _ st h=>aAt st.2 h
def bB2 (tl:TE):TI:=fun σ H R=>tl σ H fun x H1=>∃ d kvs,x= .ref d/\H1 d=some (.dT kvs)/\∀ o,R (bH1 d o kvs) (aJ H1 d (.frz o (.dT kvs)))
theorem aT0 {X:Cx}{tg l:Expr}{tl:TE}(hl:PE X l tl):PI X tg l (bB2 tl):=by
 intro pins s σ H R I h;refine cO (hl pins s σ H _ I h) ?_;rintro v s1 ⟨x,H1,I1,r1,q1⟩
 obtain ⟨d,kvs,e,hd,q⟩:=q1;subst e
 cases r1
 obtain ⟨z,ns,xs,rel,o,es,ep,h1,h2,h3,h4,h5⟩:=(show bO X.prog X.w H1 s1.heap d (.dT kvs) from I1.hok d _ hd)
 have I2:=I1.freezeT hd h1;obtain ⟨_,_,_,sz,_⟩:=xV I2 h3 aB;refine bB4 ns h1 h2 h3 ?_;have f:(aJ H1 d (.frz o (.dT kvs))) s1.heap.objs.size=none:=I2.hok.fresh (ao _);exists s1.heap.objs.size,[s1.heap.objs.size],_,_,_,rfl,I2.kept (t':=s1.toks) fun b o e=>af _ e,aF7 d _ o kvs h3,⟨df _,⟨_,aq _ rfl,rfl,by rw [sz];rfl⟩⟩,fun b hb=>?_,q o;have e:b=s1.heap.objs.size:=by simpa using hb
 subst e;exact I2.fpOk (ao _) f
theorem aG1 {d:Addr}{o:Obj}{kvs:List (List Key×V)}{g:TG}{tc:TT}{te:TE}{Kf:List V->Hp->Prop}{σ0:St}{H1:Hp}(Pv:Nat->List V->St->Hp->Prop) (hz:kvs.length < sizeLine) (h0:Pv 0 [] σ0 H1) (hb:∀ i zs σ H,Pv i zs σ H->zs.length<=i)
  (hl:∀ i zs σ H,i<=kvs.length->Pv i zs σ H->H d=some (.frz o (.dT kvs)))
  (hs:∀ i k v b zs σ H,kvs[i]?=some (k,v)->H b=some (.tup (k.map kV))->Pv i zs σ H->g (.ref b) σ H fun σ2 H2=>tc σ2 H2 fun b H3=>if b=true then te σ2 H3 fun y H4=>Pv (i+1) (zs++[y]) σ2 H4 else Pv (i+1) zs σ2 H3)
  (hd:∀ zs σ H,Pv kvs.length zs σ H->Kf zs H):lM (bH1 d o kvs) g tc te Kf σ0 H1:=by
 exists fun i m zs σ H=>m=kvs.length - i/\i<=kvs.length/\Pv i zs σ H,⟨kvs.length,by simp,df _,h0⟩,?_;rintro i m zs σ H ⟨rfl,hi,p⟩;have q1:=hl i zs σ H hi p;exists db (hb _ _ _ _ p) (db hi hz),?_
 by_cases hlt:i < kvs.length
 ·refine .inr ⟨⟨hlt,q1⟩,Pv (i+1),fun zs' σ' H' p'=>⟨kvs.length - (i+1),gk hlt (dy i),rfl,hlt,p'⟩,fun x H' y=>?_⟩;obtain ⟨rfl,k,v,b,e1,e2,rfl⟩:=y;exact hs i k v b zs σ _ e1 e2 p
 ·have e:i=kvs.length:=∅
  subst e;exact .inl ⟨⟨ao _,q1⟩,hd zs σ H p⟩
theorem fJ.ft {H:Hp}{a b:Addr}{o:Obj}{kvs:List (List Key×V)}{k:List Key}(e:H a=some (.frz o (.dT kvs))) (eb:H b=some (.tup (k.map kV))):fJ H a (.ref b) (bH kvs k):= .inr ⟨kvs,k,b,.inr ⟨o,e⟩,rfl,eb,rfl⟩
section
variable {X:Cx}
theorem aZ1 {tg l:Expr}{t1 t2:TI}(h1:PI X tg l t1) (h2:PI X tg l t2):PI X tg l (fun σ H R=>t1 σ H R\/t2 σ H R):=fun pins s σ H R I h=>h.elim (h1 pins s σ H R I) (h2 pins s σ H R I)
theorem bK2 {f:Value}{r1 r2:List V->Hp->VK->Prop}(h1:dL X f r1) (h2:dL X f r2):dL X f (fun xs H Q=>r1 xs H Q\/r2 xs H Q):=fun pins s σ H xs us Q I v h=>h.elim (h1 pins s σ H xs us Q I v) (h2 pins s σ H xs us Q I v)
theorem bX6 {f:Value->Value->Sem Value}{r1 r2:R2}(h1:jX X f r1) (h2:jX X f r2):jX X f (fun x y H Q=>r1 x y H Q\/r2 x y H Q):=fun pins s σ H x y v u Q I a b h=>h.elim (h1 pins s σ H x y v u Q I a b) (h2 pins s σ H x y v u Q I a b)
def cA4 (K:W.Frag):R2:=fun x y H Q=>rI0 (fun i j=> .bl (decide (i < j))) x y H Q\/cF9 K x y H Q
theorem bW7 {k:Nat}(K:W.Frag) (hr:bU k X.A) (hK:autoParam (X.K=K) Rq0._auto_1):jX X (compareOp .Lt) (cA4 K):=by
 subst hK;exact bX6 mW (bT5 (by have:=hr.units;omega))
end
end L2
namespace Mine
open PySem L2
abbrev En:=List Int×Int×Int
def cV:Bool->Hp->V->List Int->Prop
 |true,H,v,a=>∃ p,v= .ref p/\H p=some (.tup (a.map V.int))
 |false,_,v,a=>∃ n,a=[n]/\v= .int n
theorem cV.ts {H H':Hp}(t:TS H H'):∀ {b:Bool}{v:V}{a:List Int},cV b H v a->cV b H' v a
 |true,_,_,⟨p,e,h⟩=>⟨p,e,t _ _ h⟩
 |false,_,_,h=>h
def nZ (b:Bool) (H:Hp) (v:V) (e:En):Prop:=∃ p x q,v= .ref p/\H p=some (.tup [x,.ref q])/\cV b H x e.1/\bP H q e.2.1 e.2.2
theorem nZ.ts {H H':Hp}(t:TS H H') {b:Bool}{v:V}{e:En}(h:nZ b H v e):nZ b H' v e :=by
 obtain ⟨p,x,q,e1,h1,h2,h3⟩:=h;exact ⟨p,x,q,e1,t _ _ h1,h2.ts t,t _ _ h3⟩
def fY (b:Bool) (H:Hp) (t:Addr) (es:List En):Prop:=∃ us,H t=some (.tup us)/\bC (nZ b H) us es
theorem fY.ts {H H':Hp}(s:TS H H') {b:Bool}{t:Addr}{es:List En}(h:fY b H t es):fY b H' t es :=by
 obtain ⟨us,h1,h2⟩:=h;exact ⟨us,s _ _ h1,h2.mono fun _ _ z=>z.ts s⟩
def jD (es:List En) (a:List Int):Option (Int×Int):=(es.find? fun e=>decide (e.1=a)).map (·.2)
theorem sO {e:En}{r:List En}{a:List Int}(h:e.1=a):jD (e :: r) a=some e.2:=by simp [jD,List.find?_cons,h]
theorem uQ {e:En}{r:List En}{a:List Int}(h:¬ e.1=a):jD (e :: r) a=jD r a:=by simp [jD,List.find?_cons,h]
theorem oI:∀ {es:List En}{a:List Int}{s:Int×Int},jD es a=some s->(a,s)∈es
 |[],_,_,h=>by cases h
 |e :: r,a,s,h=>by
  by_cases c:e.1=a
  ·rw [sO c] at h
   cases h
   rw [<- c];exact bj
  ·rw [uQ c] at h;exact ba _ (oI h)
theorem mE:∀ {es:List En},(es.map (·.1)).Nodup->∀ e∈es,jD es e.1=some e.2
 |[],_,e,h=>absurd h cu
 |x :: r,nd,e,h=>by
  rw [au,fh] at nd;rcases bo.mp h with rfl | h
  ·exact sO rfl
  ·rw [uQ fun z=>nd.1 (z ▸ List.mem_map_of_mem h)];exact mE nd.2 e h
def aB0 (H:Hp):Option V->Option (Int×Int)->Prop
 |none,none=>True
 |some v,some f=>FrR H v f
 |_,_=>False
theorem aB0.ts {H H':Hp}(t:TS H H'):∀ {o:Option V}{f:Option (Int×Int)},aB0 H o f->aB0 H' o f
 |none,none,_=>trivial
 |some _,some _,h=>FrR.ts t h
 |none,some _,h=>h
 |some _,none,h=>h
theorem pO (ns:List Int):(ns.map Sum.inl:List Key).map kV=ns.map V.int:=by
 rw [cz];rfl
abbrev An:=List Int
def VA (b:Bool) (a:An):Prop:=b=true\/∃ n,a=[n]
theorem cV.va {b:Bool}{H:Hp}{v:V}{a:An}(h:cV b H v a):VA b a:=by
 cases b with
 |true=>exact .inl rfl
 |false=>obtain ⟨n,e,_⟩:=h;exact .inr ⟨n,e⟩
section
variable {κ κ':Type} [DecidableEq κ] [DecidableEq κ'] {f:κ->κ'}
theorem iJ:∀ {l:List (κ×V)}{k:κ},(∀ e∈l,f e.1=f k->e.1=k)->bH (l.map fun e=>(f e.1,e.2)) (f k)=bH l k
 |[],_,_=>rfl
 |e :: r,k,h=>by
  rw [au]
  by_cases c:e.1=k
  ·rw [bR c,bR (show f e.1=f k by rw [c])]
  ·rw [aZ c,aZ (show ¬ f e.1=f k from fun z=>c (h e bj z))];exact iJ fun x hx=>h x (ba _ hx)
theorem nV {l:List (κ×V)}{k:κ}{v:V}(h:∀ e∈l,f e.1=f k->e.1=k):bF (l.map fun e=>(f e.1,e.2)) (f k) v=(bF l k v).map fun e=>(f e.1,e.2):=by
 unfold bF;have a:((l.map fun e=>(f e.1,e.2)).any fun p=>decide (p.1=f k))=l.any fun p=>decide (p.1=k):=by
  clear v
  induction l with
  |nil=>rfl
  |cons e r ih =>
   rw [au,qt,qt,ih fun x hx=>h x (ba _ hx)]
   congr 1
   by_cases c:e.1=k
   ·rw [ar c,ar (by rw [c])]
   ·rw [dk c,dk fun z=>c (h e bj z)]
 rw [a]
 split
 ·rw [cz,cz];refine ik fun e he=>?_
  show (if f e.1=f k then (f e.1,v) else (f e.1,e.2))=_
  dsimp only [Function.comp]
  by_cases c:e.1=k
  ·rw [bh c,bh (by rw [c])]
  ·rw [ap c,ap fun z=>c (h e he z)]
 ·rw [bp];rfl
end
theorem nX {x y:An}(h:(x.map Sum.inl:List Key)=y.map Sum.inl):x=y:=by
 induction x generalizing y with
 |nil=>cases y with
  |nil=>rfl
  |cons _ _=>cases h
 |cons a x ih=>cases y with
  |nil=>cases h
  |cons b y =>
   rw [au,au] at h;injection h with h1 h2
   rw [wu h1,ih h2]
theorem nL {x y:An}(hx:∃ n,x=[n]) (hy:∃ n,y=[n]) (h:(Sum.inl (x.headD 0):Key)=Sum.inl (y.headD 0)):x=y:=by
 obtain ⟨n,rfl⟩:=hx;obtain ⟨m,rfl⟩:=hy;have:n=m:=wu h;rw [this]
def dB (b:Bool) (l:List (An×V)):HO:=if b then .dT (l.map fun e=>(e.1.map Sum.inl,e.2)) else .dK (l.map fun e=>(Sum.inl (e.1.headD 0),e.2))
theorem pU {b:Bool}{l:List (An×V)}{o:HO}(h1:∀ z,o≠ .dK z) (h2:∀ z,o≠ .dT z):o≠dB b l:=by
 unfold dB
 split
 ·exact h2 _
 ·exact h1 _
theorem dY {b:Bool}{H:Hp}{d:Addr}{l:List (An×V)}{v:V}{a:An}(h:H d=some (dB b l)) (ok:∀ e∈l,VA b e.1) (hv:cV b H v a):fJ H d v (bH l a):=by
 cases b with
 |true =>
  obtain ⟨p,rfl,hp⟩:=hv;have:=fJ.t (k:=a.map Sum.inl) h (show H p=some (.tup ((a.map Sum.inl:List Key).map kV)) by rw [pO];exact hp)
  rwa [iJ (f:=fun a:An=>(a.map Sum.inl:List Key)) (fun e _ q=>nX q)] at this
 |false =>
  obtain ⟨n,rfl,rfl⟩:=hv;have:=fJ.k (k:=(Sum.inl n:Key)) h
  rwa [show (Sum.inl n:Key)=Sum.inl (([n]:An).headD 0) from rfl,iJ (f:=fun a:An=>(Sum.inl (a.headD 0):Key)) (k:=[n]) (fun e he q=>nL ((ok e he).resolve_left (by decide)) ⟨n,rfl⟩ q)] at this
theorem lJ {b:Bool}{H:Hp}{d:Addr}{l:List (An×V)}{v u:V}{a:An}(h:H d=some (dB b l)) (ok:∀ e∈l,VA b e.1) (hv:cV b H v a) (hz:l.length < sizeLine):kB H d v u (aJ H d (dB b (bF l a u))):=by
 cases b with
 |true =>
  obtain ⟨p,rfl,hp⟩:=hv;have:=kB.t (k:=a.map Sum.inl) (v:=u) h (show H p=some (.tup ((a.map Sum.inl:List Key).map kV)) by rw [pO];exact hp) (by rw [ae];exact hz)
  rwa [nV (f:=fun a:An=>(a.map Sum.inl:List Key)) (fun e _ q=>nX q)] at this
 |false =>
  obtain ⟨n,rfl,rfl⟩:=hv;have:=kB.k (k:=(Sum.inl n:Key)) (v:=u) h (by rw [ae];exact hz)
  rwa [show (Sum.inl n:Key)=Sum.inl (([n]:An).headD 0) from rfl,nV (f:=fun a:An=>(Sum.inl (a.headD 0):Key)) (k:=[n]) (fun e he q=>nL ((ok e he).resolve_left (by decide)) ⟨n,rfl⟩ q)] at this
theorem jH {b:Bool}{H:Hp}{d:Addr}{l:List (An×V)}(h:H d=some (dB b l)):IsD H d:=by
 cases b with
 |true=>exact .inr ⟨_,.inl h⟩
 |false=>exact .inl ⟨_,.inl h⟩
def PrA (b:Bool) (H:Hp) (v:V) (e:An×V):Prop:=∃ t u,v= .ref t/\H t=some (.tup [u,e.2])/\cV b H u e.1
theorem tW {b:Bool}{H:Hp}{d:Addr}{ys:List V}{es:List (An×V)}(tw:bC (PrA b H) ys es) (nd:(es.map (·.1)).Nodup) (hz:es.length < sizeLine) (hd:H d=none) (ok:∀ e∈es,VA b e.1):nH H d ys fun i=>dB b (es.take i):=fun i hi=>by
 have l:=tw.length;obtain ⟨e,he,t,u,e1,h1,h2⟩:=tw.at (ak hi);have li:i < es.length:=∅
 have n:bH (es.take i) e.1=none:=by
  cases q:bH (es.take i) e.1 with
  |none=>rfl
  |some v =>
   exfalso;have s:es.map (·.1)=(es.take i).map (·.1)++(es.drop i).map (·.1):=by rw [<- bp,nv]
   rw [s] at nd;have dj:=(qh.mp nd).2.2;refine dj _ (aJ4 q) _ ?_ rfl;rw [oz li,au];have:es[i]=e:=by
    have:=ak li;rw [he] at this;exact (dm this).symm
   rw [this];exact bj
 have ts:TS H (aJ H d (dB b (es.take i))):=fun c xs q=>by rw [aE (aF q hd)];exact q
 have:=lJ (u:=e.2) (H:=aJ H d (dB b (es.take i))) (d:=d) aB (fun x hx=>ok x (pc hx)) (h2.ts ts) (by rw [bx];omega);rw [jM _ n,xJ] at this;exists t,u,e.2,by rw [ak hi,e1],h1,?_
 dsimp only
 rw [aO he];exact this
theorem rH (b:Bool):dB b []= .dK []\/dB b []= .dT []:=by cases b;exact .inl rfl;exact .inr rfl
def rA (b:Bool) (H:Hp) (d:Addr) (es:List En):Prop:=∃ l:List (An×V),H d=some (dB b l)/\(∀ e∈l,VA b e.1)/\∀ a,aB0 H (bH l a) (jD es a)
theorem rA.keep {H H':Hp}(s:TS H H') {d:Addr}(hd:∀ o,H d=some o->H' d=some o) {b:Bool}{es:List En}(h:rA b H d es):rA b H' d es:=by obtain ⟨l,a,v,k⟩:=h;exact ⟨l,hd _ a,v,fun x=>(k x).ts s⟩
theorem rA.same {H H':Hp}(s:aN H H') {b:Bool}{d:Addr}{es:List En}(h:rA b H d es):rA b H' d es:=h.keep (TS.of s) fun _ e=>s _ _ e
theorem rA.get {H:Hp}{b:Bool}{d:Addr}{es:List En}{v:V}{a:List Int}(h:rA b H d es) (hv:cV b H v a):∃ o,fJ H d v o/\aB0 H o (jD es a):=by obtain ⟨_,e,k,o⟩:=h;exact ⟨_,dY e k hv,o a⟩
theorem rA.isD {H:Hp}{b:Bool}{d:Addr}{es:List En}(h:rA b H d es):IsD H d:=by obtain ⟨_,e,_⟩:=h;exact jH e
theorem wU {b:Bool}{H:Hp}:∀ {us:List V}{es:List En},bC (nZ b H) us es->∃ l:List (An×V),bC (PrA b H) us l/\l.map (·.1)=es.map (·.1)/\(∀ e∈l,VA b e.1)/\∀ a,aB0 H (bH l a) (jD es a)
 |[],[],_=>⟨[],trivial,rfl,fun _ z=>absurd z cu,fun _=>trivial⟩
 |v :: us,e :: es,⟨⟨p,x,q,e1,h1,h2,h3⟩,t⟩=>by
  obtain ⟨l,a1,a2,a3,a4⟩:=wU t;exists (e.1,.ref q) :: l,⟨⟨p,x,e1,h1,h2⟩,a1⟩,by rw [au,au,a2],fun y hy=>?_,fun a=>?_
  ·rcases bo.mp hy with z | z
   ·rw [z];exact h2.va
   ·exact a3 y z
  ·by_cases c:e.1=a
   ·rw [bR c,sO c];exact ⟨q,rfl,h3⟩
   ·rw [aZ c,uQ c];exact a4 a
 |[],_ :: _,z=>z.elim
 |_ :: _,[],z=>z.elim
theorem rK {H:Hp}{us:List V}{es:List En}(hz:us.length < sizeLine) (nd:(es.map (·.1)).Nodup) {b:Bool}(tw:bC (nZ b H) us es) :
  ∃ o:Nat->HO,(o 0= .dK []\/o 0= .dT [])/\∀ d,H d=none->nH H d us o/\rA b (aJ H d (o us.length)) d es/\aN H (aJ H d (o us.length)):=by
 obtain ⟨l,a1,a2,a3,a4⟩:=wU tw;have ln:=a1.length;exists fun i=>dB b (l.take i),rH b,fun d hd=>⟨tW a1 (by rw [a2];exact nd) ∅ hd a3,⟨l,?_,a3,fun a=>(a4 a).ts (.of (aA hd _))⟩,aA hd _⟩
 dsimp only
 rw [ln,be];exact aB
def gY (es:List En) (a:List Int):Int×Int:=(jD es a).getD (0,1)
def cU (f s:Int×Int):Int×Int:=aK (f.1 * s.1) (f.2 * s.2)
def aQ0 (s l:Int×Int):Int×Int:=aK (s.1 * l.2 - l.1 * s.2) (s.2 * l.2)
def aC4 (s t:Int×Int):Int×Int:=aK (s.1 * t.2) (s.2 * t.1)
def ltF (u v:Int×Int):Bool:=decide (u.1 * v.2 < v.1 * u.2)
def abv (es2:List En) (f:Int×Int) (e:En):Bool:=ltF (cU f (gY es2 e.1)) e.2
def qT (es2:List En) (f:Int×Int) (es1:List En):List (Int×Int):=(es1.filter (abv es2 f)).map fun e=>aQ0 e.2 (cU f (gY es2 e.1))
def vY (es2:List En) (f:Int×Int) (es1:List En):Int×Int:=(qT es2 f es1).foldl jI (0,1)
def bW6 (a:List Int):Prop:=a.length<=5/\∀ n∈a,gE n
structure qZ (s:Int×Int):Prop where
 a:0<=s.1
 a2:s.1 < 2 ^ 37
 b:1<=s.2
 b2:s.2 < 2 ^ 37
structure lW (f:Int×Int):Prop where
 a:0<=f.1
 a2:f.1 < 2 ^ 40
 b:1<=f.2
 b2:f.2 < 2 ^ 40
def cH5 (c:Int) (es:List En):Prop:=∀ e∈es,∃ w,1<=w/\w<=c/\e.2=aK w c
def Ups (as:List (List Int)):Prop:=as.Pairwise fun a b=>HT.lexLt a b=true
structure eE (c:Int) (es:List En):Prop where
 nd:(es.map (·.1)).Nodup
 l1:1<=es.length
 l2:es.length<=12
 c1:1<=c
 c2:c < 2 ^ 37
 sh:cH5 c es
 an:∀ e∈es,bW6 e.1
 sm:∃ ws:List Int,es.map (·.2)=ws.map (fun w=>aK w c)/\ws.sum=c/\∀ w∈ws,1<=w
 up:Ups (es.map (·.1))
theorem qU {a b A B:Int}(a0:0<=a) (a1:a < A) (b0:0<=b) (b1:b < B):0<=a * b/\a * b < A * B:=by
 exists dt a0 b0,?_;exact iu (ii (qk b1) a0) (jo a1 ∅)
theorem dD {a b:Int}(ha:1<=a) (hb:1<=b):1<=a * b:=mq (by omega:0 < a) (by omega:0 < b)
theorem rF {a b N:Int}(ha:0<=a) (h1:a < N) (hb:1<=b) (h2:b < N):0<=(aK a b).1/\(aK a b).1 < N/\1<=(aK a b).2/\(aK a b).2 < N :=
 ⟨dS ha,iu (xZ ha hb) h1,cX hb,iu (aJ9 hb) h2⟩
theorem dH {a b:Int}(ha:0<=a) (hb:1<=b):(aK a b).1 * b=a * (aK a b).2:=jP ha hb
theorem tY {w c:Int}(hw:0<=w) (h1:w<=c) (c1:1<=c) (c2:c < 2 ^ 37):qZ (aK w c):=by
 have:=rF (N:=2 ^ 37) hw ∅ c1 c2;exact ⟨this.1,this.2.1,this.2.2.1,this.2.2.2⟩
theorem eE.at {c:Int}{es:List En}(T:eE c es) {e:En}(h:e∈es):qZ e.2/\1<=e.2.1:=by
 obtain ⟨w,w1,w2,ew⟩:=T.sh e h;rw [ew];exact ⟨tY ∅ w2 T.c1 T.c2,oO w1 T.c1⟩
theorem eE.sA {c:Int}{es:List En}(T:eE c es) (a:List Int):∃ w,0<=w/\w<=c/\gY es a=aK w c:=by
 unfold gY
 cases h:jD es a with
 |none=>exact ⟨0,∅,by have:=T.c1;omega,by rw [dO T.c1];rfl⟩
 |some s =>
  obtain ⟨w,w1,w2,ew⟩:=T.sh _ (oI h);exact ⟨w,∅,w2,ew⟩
theorem eE.shOk {c:Int}{es:List En}(T:eE c es) (a:List Int):qZ (gY es a):=by
 obtain ⟨w,w0,w1,e⟩:=T.sA a;rw [e];exact tY w0 w1 T.c1 T.c2
theorem aG0 {f s:Int×Int}(F:lW f) (S:qZ s):0<=(cU f s).1/\(cU f s).1 < 2 ^ 77/\1<=(cU f s).2/\(cU f s).2 < 2 ^ 77:=by
 have e1:=qU F.a F.a2 S.a S.a2;have e2:=qU (by have:=F.b;omega) F.b2 (by have:=S.b;omega) S.b2;have e3:=dD F.b S.b;exact rF (N:=2 ^ 77) e1.1 ∅ e3 ∅
theorem aZ0 {c1 c2:Int}{es1 es2:List En}{f:Int×Int}{e:En}(o1:1<=c1) (o2:c1 < 2 ^ 37) (T2:eE c2 es2) (F:lW f) (he:∃ w,1<=w/\w<=c1/\e.2=aK w c1) (ha:abv es2 f e=true) :
  ∃ m,0<=m/\m < 2 ^ 118/\aQ0 e.2 (cU f (gY es2 e.1))=aK m (c1 * (f.2 * c2)):=by
 obtain ⟨w,w1,w2,ew⟩:=he;obtain ⟨v,v0,v1,ev⟩:=T2.sA e.1;have hs:qZ e.2:=by rw [ew];exact tY ∅ w2 o1 o2
 have hl:=aG0 F (T2.shOk e.1);have lt:(cU f (gY es2 e.1)).1 * e.2.2 < e.2.1 * (cU f (gY es2 e.1)).2:=cf ha;have r1:e.2.1 * c1=w * e.2.2:=by rw [ew];exact dH ∅ o1
 have r0:(gY es2 e.1).1 * c2=v * (gY es2 e.1).2:=by rw [ev];exact dH v0 T2.c1
 have t0:=T2.shOk e.1;have p1:=dD F.b t0.b;have n1:=dt F.a t0.a;have r2:(cU f (gY es2 e.1)).1 * (f.2 * (gY es2 e.1).2)=(f.1 * (gY es2 e.1).1) * (cU f (gY es2 e.1)).2:=dH n1 p1;have p2:=dD F.b T2.c1;have r3:(cU f (gY es2 e.1)).1 * (f.2 * c2)=(f.1 * v) * (cU f (gY es2 e.1)).2:=by
  have tp:(gY es2 e.1).2≠0:=by have:=t0.b;omega
  refine xj tp ?_;generalize (cU f (gY es2 e.1)).1=x at *;generalize (cU f (gY es2 e.1)).2=y at *;generalize (gY es2 e.1).1=a at *;generalize (gY es2 e.1).2=b at *
  grind
 have b1:=qU (by omega:0<=w) (by omega:w < 2 ^ 37) (by omega:0<=f.2 * c2) (by have:=qU (by have:=F.b;omega) F.b2 (by have:=T2.c1;omega) T2.c2;omega:f.2 * c2 < 2 ^ 78);have b2:=qU F.a F.a2 v0 (by have:=T2.c2;omega:v < 2 ^ 37);have b3:=qU b2.1 b2.2 (by omega:0<=c1) o2;have key:((e.2.1 * (cU f (gY es2 e.1)).2) - (cU f (gY es2 e.1)).1 * e.2.2) * (c1 * (f.2 * c2))=(w * (f.2 * c2) - (f.1 * v) * c1) * (e.2.2 * (cU f (gY es2 e.1)).2):=by
  generalize (cU f (gY es2 e.1)).1=x at *;generalize (cU f (gY es2 e.1)).2=y at *;generalize f.2 * c2=z at *;generalize f.1 * v=u at *
  grind
 have q1:=dD hs.b hl.2.2.1;have q2:=dD o1 p2;have m0:0<=w * (f.2 * c2) - (f.1 * v) * c1:=by
  refine Int.not_lt.mp fun z=>?_
  have g1:=Int.mul_neg_of_neg_of_pos z (by omega:0 < e.2.2 * (cU f (gY es2 e.1)).2);have g2:=mq (by omega:0 < e.2.1 * (cU f (gY es2 e.1)).2 - (cU f (gY es2 e.1)).1 * e.2.2) (by omega:0 < c1 * (f.2 * c2));rw [key] at g2;omega
 exists w * (f.2 * c2) - (f.1 * v) * c1,m0,∅,?_;exact fS ∅ q1 m0 q2 key
theorem aJ1 {c1 c2:Int}{f:Int×Int}(o1:1<=c1) (o2:c1 < 2 ^ 37) (p1:1<=c2) (p2:c2 < 2 ^ 37) (F:lW f):1<=c1 * (f.2 * c2)/\c1 * (f.2 * c2) < 2 ^ 118:=by
 have e:=qU (by have:=F.b;omega) F.b2 (by omega:0<=c2) p2;have e2:=qU (by omega:0<=c1) o2 e.1 e.2;exact ⟨dD o1 (dD F.b p1),∅⟩
theorem yZ {B:Int}(B1:1<=B) (B2:B < 2 ^ 118):∀ (fs:List (Int×Int)) (S:Int),0<=S->S+fs.length * 2 ^ 118 < 2 ^ 180->(∀ x∈fs,∃ m,0<=m/\m < 2 ^ 118/\x=aK m B) ->
  qJ (aK S B) fs/\∃ S',0<=S'/\S' < 2 ^ 180/\fs.foldl jI (aK S B)=aK S' B
 |[],S,h0,h1,_=>⟨trivial,S,h0,by simpa using h1,rfl⟩
 |x :: r,S,h0,h1,h=>by
  obtain ⟨m,m0,m1,e⟩:=h x bj;rw [dq] at h1;have a:=eS h0 m0 B1;have ih:=yZ B1 B2 r (S+m) ∅ ∅ fun y hy=>h y (ba _ hy)
  rw [jd,e,a];exists ⟨pH h0 ∅ B1 ∅,pH m0 ∅ B1 ∅,?_⟩,ih.2;show qJ (jI (aK S B) (aK m B)) r;rw [a];exact ih.1
theorem aR3 {c1 c2:Int}{es1 es2:List En}{f:Int×Int}(o1:1<=c1) (o2:c1 < 2 ^ 37) (ov:cH5 c1 es1) (hl:es1.length<=12) (T2:eE c2 es2) (F:lW f):qJ (0,1) (qT es2 f es1)/\kW (vY es2 f es1):=by
 have B:=aJ1 o1 o2 T2.c1 T2.c2 F;have ln:(qT es2 f es1).length<=12:=by
  unfold qT;rw [ae];exact cy (de _ _) hl
 obtain ⟨s,S',h0,h1,e⟩:=yZ B.1 B.2 (qT es2 f es1) 0 ∅ ∅ fun x hx=>by
  unfold qT at hx;obtain ⟨y,hy,rfl⟩:=am.mp hx;obtain ⟨h1,h2⟩:=br.mp hy;exact aZ0 (es1:=es1) o1 o2 T2 F (ov y h1) h2
 rw [dO B.1] at s e;exists s,?_;unfold vY;rw [e];exact pH h0 h1 B.1 (by have:=B.2;omega)
theorem bT6 {g:Int×Int}{a b:Int}(g1:1<=g.2) (ha:0<=a) (hb:1<=b):ltF g (aK a b)=ltF g (a,b):=by
 have r:=dH ha hb;have l2:1<=(aK a b).2:=cX hb;unfold ltF;rw [pj];show g.1 * (aK a b).2 < (aK a b).1 * g.2↔g.1 * b < a * g.2;generalize (aK a b).1=x at *;generalize (aK a b).2=y at *
 constructor
 ·intro h;have h1:=jo h (by omega:0 < b);refine qv (a:=y) ?_ ∅;have e1:g.1 * y * b=g.1 * b * y:=by grind
  have e2:x * g.2 * b=a * g.2 * y:=by grind
  omega
 ·intro h;have h1:=jo h (by omega:0 < y);refine qv (a:=b) ?_ ∅;have e1:g.1 * y * b=g.1 * b * y:=by grind
  have e2:x * g.2 * b=a * g.2 * y:=by grind
  omega
structure cK5 (g:Int×Int):Prop where
 a:0<=g.1
 a2:g.1 < 2 ^ 75
 b:1<=g.2
 b2:g.2 < 2 ^ 75
theorem bR3 {s t:Int×Int}(S:qZ s) (T:qZ t) (t1:1<=t.1):cK5 (aC4 s t):=by
 have e1:=qU S.a S.a2 (by have:=T.b;omega) T.b2;have e2:=qU (by have:=S.b;omega) S.b2 T.a T.a2;have e3:=dD S.b t1;have:=rF (N:=2 ^ 75) e1.1 ∅ e3 ∅;exact ⟨this.1,this.2.1,this.2.2.1,this.2.2.2⟩
theorem aX0 {w c:Int}(h0:0<=w) (h1:1<=c):aK (1 * (aK w c).1) (1 * (aK w c).2)=aK w c:=by
 rw [zx,zx];have:=bM1 h0 h1;exact wo this.1 this.2
def spLessF:Sp:=fun vs H Q _=>∃ (p q:Addr) (a b c d:Int),vs=[.ref p,.ref q]/\bP H p a b/\bP H q c d/\jY a/\jY b/\jY c/\jY d/\Q (.bl (decide (a * d < c * b))) H
structure zC (b:Bool) (H:Hp) (t1 t2 p:Addr) (c1 c2:Int) (es1 es2:List En) (f:Int×Int):Prop where
 h1:fY b H t1 es1
 h2:fY b H t2 es2
 hf:bP H p f.1 f.2
 o1:eE c1 es1
 o2:eE c2 es2
 of:lW f
theorem zC.ts {b:Bool}{H H':Hp}{t1 t2 p:Addr}{c1 c2:Int}{es1 es2:List En}{f:Int×Int}(t:TS H H') (h:zC b H t1 t2 p c1 c2 es1 es2 f):zC b H' t1 t2 p c1 c2 es1 es2 f :=
 ⟨h.h1.ts t,h.h2.ts t,t _ _ h.hf,h.o1,h.o2,h.of⟩
def zJ (b:Bool) (es2:List En) (f:Int×Int) (H:Hp) (v:V) (e:En):Prop:=∃ p x q r,v= .ref p/\H p=some (.tup [x,.ref q,.ref r])/\cV b H x e.1/\bP H q e.2.1 e.2.2/\bP H r (cU f (gY es2 e.1)).1 (cU f (gY es2 e.1)).2
theorem zJ.ts {b:Bool}{es2:List En}{f:Int×Int}{H H':Hp}{v:V}{e:En}(t:TS H H') (h:zJ b es2 f H v e):zJ b es2 f H' v e :=by
 obtain ⟨p,x,q,r,e1,h1,h2,h3,h4⟩:=h;exact ⟨p,x,q,r,e1,t _ _ h1,h2.ts t,t _ _ h3,t _ _ h4⟩
def cK6 (H:Hp) (v:V):Option (Int×Int)->Prop
 |none=>v= .non
 |some f=>FrR H v f
def spAbove:Sp:=fun vs H Q _=>∃ b t1 t2 p c1 c2 es1 es2 f,vs=[.ref t1,.ref t2,.ref p]/\zC b H t1 t2 p c1 c2 es1 es2 f/\∀ H' l ws,aN H H'->H' l=some (.lst ws)->bC (zJ b es2 f H') ws (es1.filter (abv es2 f))->Q (.ref l) H'
def spRest:Sp:=fun vs H Q _=>∃ b t1 t2 p c1 c2 es1 es2 f,vs=[.ref t1,.ref t2,.ref p]/\zC b H t1 t2 p c1 c2 es1 es2 f/\∀ H' r,aN H H'->bP H' r (vY es2 f es1).1 (vY es2 f es1).2->Q (.ref r) H'
def spPlus:Sp:=fun vs H Q _=>∃ (p q:Addr) (u e:Int×Int),vs=[.ref p,.ref q]/\bP H p u.1 u.2/\bP H q e.1 e.2/\kW u/\kW e/\∀ r,H r=none->Q (.ref r) (aJ H r (.tup [.int (jI u e).1,.int (jI u e).2]))
structure iZ (b:Bool) (H:Hp) (r:Addr) (us:List V) (as:List (List Int)):Prop where
 h:H r=some (.lst us)
 tw:bC (cV b H) us as
 nd:as.Nodup
 ok:∀ a∈as,bW6 a
 up:Ups as
def spPool:Sp:=fun vs H Q _=>∃ d l m,vs=[.ref d,.int m]/\eZ H d l/\1<=m/\m<=12/\∀ b H' r us as,iZ b H' r us as->as.length=m.toNat->H r=none->eZ H' d l->dM d l H H'->Q (.ref r) H'
def uK (ws:List Int):List (Int×Int):=ws.map fun w=>aK w ws.sum
def spShares:Sp:=fun vs H Q _=>∃ (b:Bool) (p q:Addr) (us:List V) (as:List (List Int)) (ws:List Int),vs=[.ref p,.ref q]/\iZ b H p us as/\H q=some (.lst (ws.map V.int))/\ws.length=as.length/\1<=ws.length/\ws.length<=12/\(∀ w∈ws,1<=w/\w<=10 ^ 10) /\
 ∀ H' t es c,aN H H'->fY b H' t es->eE c es->Q (.ref t) H'
def spTwo:Sp:=fun vs H Q _=>∃ d l r wide b us as,vs=[.ref d,.ref r,.int wide]/\eZ H d l/\iZ b H r us as/\r≠l/\1<=as.length/\as.length<=12/\1<=wide/\wide<=10 ^ 10 /\
 ∀ H' p t1 t2 es1 es2 c1 c2,H' p=some (.lst [.ref t1,.ref t2])->fY b H' t1 es1->fY b H' t2 es2->eE c1 es1->eE c2 es2->eZ H' d l->dM d l H H'->Q (.ref p) H'
def spFac:Sp:=fun vs H Q _=>∃ d l b t1 t2 c1 c2 es1 es2,vs=[.ref d,.ref t1,.ref t2]/\eZ H d l/\fY b H t1 es1/\fY b H t2 es2/\eE c1 es1/\eE c2 es2/\∀ H' p f,bP H' p f.1 f.2->lW f->eZ H' d l->dM d l H H'->Q (.ref p) H'
theorem qZ.b1 {s:Int×Int}(h:qZ s):jY s.1/\jY s.2:=⟨⟨h.a,by have:=h.a2;omega⟩,by have:=h.b;omega,by have:=h.b2;omega⟩
theorem lW.b1 {s:Int×Int}(h:lW s):jY s.1/\jY s.2:=⟨⟨h.a,by have:=h.a2;omega⟩,by have:=h.b;omega,by have:=h.b2;omega⟩
theorem bP8 {f s:Int×Int}(F:lW f) (S:qZ s):jY (cU f s).1/\jY (cU f s).2/\1<=(cU f s).2:=by
 have:=aG0 F S;exact ⟨⟨this.1,∅⟩,⟨∅,∅⟩,this.2.2.1⟩
theorem fY.at {b:Bool}{H:Hp}{us:List V}{es:List En}(h:bC (nZ b H) us es) {i:Nat}{v:V}(hv:us[i]?=some v):∃ e,es[i]?=some e/\e∈es/\nZ b H v e:=by
 obtain ⟨e,he,r⟩:=h.at hv;exact ⟨e,he,bq he,r⟩
theorem bE7 {H:Hp}{es:List En}{a:List Int}{o:Option V}{z:Addr}(h:aB0 H o (jD es a)) (hz:bP H z 0 1):∃ q,o.getD (.ref z)= .ref q/\bP H q (gY es a).1 (gY es a).2:=by
 unfold gY
 cases hg:jD es a with
 |none =>
  rw [hg] at h
  cases o with
  |none=>exact ⟨z,rfl,hz⟩
  |some v=>exact h.elim
 |some s =>
  rw [hg] at h
  cases o with
  |none=>exact h.elim
  |some v =>
   obtain ⟨q,e,hq⟩:=h;exact ⟨q,e,hq⟩
theorem iE {H H2:Hp}{d l a:Addr}(D2:eZ H2 d l) (o:dM d l H H2) (h:H2 a=none):H a=none:=by
 cases q:H a with
 |none=>rfl
 |some u =>
  exfalso;obtain ⟨sd,n,ls,z⟩:=D2
  by_cases h1:a=d
  ·rw [h1,z.dc] at h;cases h
  ·by_cases h2:a=l
   ·rw [h2,z.lc] at h;cases h
   ·rw [o a u q h1 h2] at h;cases h
theorem aA6 {H:Hp}{d l r:Addr}{us:List V}(D:eZ H d l) (h:H r=some (.lst us)):r≠d:=by
 obtain ⟨sd,n,ls,z⟩:=D;exact bN h z.dc (by intro z;cases z)
theorem fI {H:Hp}{d l r:Addr}(D:eZ H d l) (h:H r=none):r≠d/\r≠l:=by
 obtain ⟨sd,n,ls,z⟩:=D;exact ⟨(aF z.dc h).symm,(aF z.lc h).symm⟩
theorem iZ.out {b:Bool}{H H':Hp}{d l r:Addr}{us:List V}{as:List (List Int)}(P:iZ b H r us as) (D:eZ H d l) (nl:r≠l) (o:dM d l H H'):iZ b H' r us as :=
 ⟨o _ _ P.h (aA6 D P.h) nl,P.tw.mono fun _ _ z=>z.ts (TS.out D o),P.nd,P.ok,P.up⟩
theorem iZ.same {b:Bool}{H H':Hp}{r:Addr}{us:List V}{as:List (List Int)}(P:iZ b H r us as) (s:aN H H'):iZ b H' r us as :=
 ⟨s _ _ P.h,P.tw.mono fun _ _ z=>z.ts (.of s),P.nd,P.ok,P.up⟩
theorem tH {H:Hp}:∀ ns:List Int,bC (cV false H) (ns.map V.int) (ns.map fun n=>[n])
 |[]=>trivial
 |n :: r=>⟨⟨n,rfl,rfl⟩,tH r⟩
def cB (b:Bool) (a:List Int):PyData:=if b then .tuple (a.map PyData.int) else .int (a.headD 0)
theorem iY {K:W.Frag}{H:Hp}:∀ {b:Bool}{v:V}{a:List Int},cV b H v a->fN K H (cB b a) v
 |true,_,a,⟨p,rfl,h⟩=>⟨p,_,rfl,aT.of h,vQ a⟩
 |false,_,_,⟨n,rfl,rfl⟩=>rfl
theorem oC (b:Bool):∀ as:List (List Int),PyData.canLayAll0 (as.map (cB b))=true/\PyData.depthAll (as.map (cB b))<=1
 |[]=>⟨rfl,df _⟩
 |a :: r=>by
  obtain ⟨h1,h2⟩:=oC b r
  cases b
  ·exact ⟨by simp [PyData.canLayAll0,cB,PyData.canLay0] at h1 ⊢;exact h1,by simp [PyData.depthAll,cB,PyData.depth] at h2 ⊢;exact h2⟩
  ·exists by simp [PyData.canLayAll0,cB,PyData.canLay0,sW] at h1 ⊢;exact h1,?_;simp only [List.map_cons,PyData.depthAll,cB,PyData.depth,mX,if_true] at h2 ⊢;omega
theorem iN (b:Bool) (as:List (List Int)):SeqAt.shaped (.list (as.map (cB b)))=true:=by
 obtain ⟨h1,h2⟩:=oC b as;simp only [SeqAt.shaped,PyData.canLay0,h1,Bool.true_and];exact ar (by simp only [PyData.depth];omega)
theorem lF {ds:List PyData}:Spec.same (.list ds) (.list [])=decide (ds=[]):=by
 cases ds <;> simp [Spec.same,Spec.sameAll]
theorem pJ {ds:List PyData}:SeqAt.noMix (.list ds) (.list [])=true:=by
 cases ds <;> simp [SeqAt.noMix,SeqAt.noMixAll]
theorem nB:SeqAt.shaped (.list [])=true:=by decide +kernel
theorem kZ {K:W.Frag}{b:Bool}{H:Hp}{r:Addr}{us:List V}{as:List (List Int)}(h:H r=some (.lst us)) (tw:bC (cV b H) us as):fN K H (.list (as.map (cB b))) (.ref r) :=
 ⟨r,us,rfl,bK.of h,tw.rep fun _ _ z=>iY z⟩
theorem tR (a:List Int):∀ as:List (List Int),(Spec.countIn (cB true a) (as.map (cB true))≠0)↔a∈as
 |[]=>by simp [Spec.countIn]
 |x :: r=>by
  have ih:=tR a r;have nn:0<=Spec.countIn (cB true a) (r.map (cB true)):=ym _ _;rw [au,Spec.countIn,bo, <- ih];have e:Spec.same (cB true x) (cB true a)=decide (x=a):=by
   simp only [cB,if_true,Spec.same];exact pG x a
  rw [e]
  by_cases c:x=a
  ·rw [bh (ar c)]
   constructor
   ·intro _;exact .inl c.symm
   ·intro _;omega
  ·rw [ap (by simp [c])]
   constructor
   ·intro h;exact .inr ∅
   ·rintro (h | h)
    ·exact absurd h.symm c
    ·omega
def aF1:Option (Int×Int)->PyData
 |none=> .none
 |some f=>kQ f.1 f.2
theorem aM9 {K:W.Frag}{H:Hp}{v:V}:∀ {o:Option (Int×Int)},cK6 H v o->fN K H (aF1 o) v
 |none,h=>h
 |some _,⟨q,e,h⟩=>by rw [e];exact tK h
theorem aZ2 {o:Option (Int×Int)}(h:∀ f,o=some f->gE f.1/\gE f.2):(aF1 o).showable=true/\(aF1 o).hasDict=false/\(aF1 o).depth<=64/\(aF1 o).shown.length<=sizeLine:=by
 cases o with
 |none=>exact ⟨by decide +kernel,by decide +kernel,by decide +kernel,by rw [qz];decide +kernel⟩
 |some f=>exact aO3 (h f rfl).1 (h f rfl).2
theorem jA {H H2:Hp}{d l lf:Addr}{o:HO}(h:dM d l H H2) (hf:H lf=none):dM d l H (aJ H2 lf o):=fun b u e h1 h2=>by
 rw [aE (aF e hf)];exact h b u e h1 h2
theorem gK {α: Type}{l:List α}{a:α}(nd:l.Nodup) (h:a∉l):(l++[a]).Nodup:=by
 rw [qh];exists nd,by simp,fun x hx y hy z=>?_;have:y=a:=by simpa using hy
 subst this;exact h (z ▸ hx)
theorem aN8 (ns:List Int) (as:List (List Int)):∀ e∈as.map (cB true),SeqAt.noMix e (cB true ns)=true:=fun e he=>by
 obtain ⟨a,_,rfl⟩:=am.mp he;simp only [cB,if_true,SeqAt.noMix];exact nI _ _
theorem aD1:∀ {ws:List Int},(∀ w∈ws,1<=w/\w<=10 ^ 10)->(ws.length:Int)<=ws.sum/\ws.sum<=ws.length * 10 ^ 10/\∀ w∈ws,w<=ws.sum
 |[],_=>⟨by simp,by simp,fun _ h=>absurd h cu⟩
 |w :: r,h=>by
  have hw:=h w bj;obtain ⟨a,b,c⟩:=aD1 fun x hx=>h x (ba _ hx)
  rw [di,dq];exists ∅,∅,fun x hx=>?_;rcases bo.mp hx with rfl | hx
  ·omega
  ·have:=c x hx;omega
theorem bQ5 {as:List (List Int)}{ws:List Int}(nd:as.Nodup) (up:Ups as) (ok:∀ a∈as,bW6 a) (hl:ws.length=as.length) (l1:1<=ws.length) (l2:ws.length<=12) (hw:∀ w∈ws,1<=w/\w<=10 ^ 10):eE ws.sum (as.zip (uK ws)):=by
 obtain ⟨s1,s2,s3⟩:=aD1 hw;have ln:(uK ws).length=as.length:=by unfold uK;rw [ae];exact hl
 have zl:(as.zip (uK ws)).length=ws.length:=by rw [List.length_zip];omega
 refine ⟨by rw [List.map_fst_zip ∅];exact nd,∅,∅,∅,∅,fun e he=>?_,fun e he=>ok _ (rf he).1,⟨ws,by rw [List.map_snd_zip ∅];rfl,rfl,fun w hw'=>(hw w hw').1⟩,by rw [List.map_fst_zip ∅];exact up⟩;have:=(rf (a:=e.1) (b:=e.2) he).2;unfold uK at this;obtain ⟨w,mw,ew⟩:=am.mp this;exact ⟨w,(hw w mw).1,s3 w mw,ew.symm⟩
structure pZ (b:Bool) (H:Hp) (X:List Addr) (t pa pw:Addr) (us:List V) (as:List (List Int)) (ws:List Int):Prop where
 h:H t=some (.tup [.ref pa,.ref pw])
 pl:iZ b H pa us as
 hw:H pw=some (.lst (ws.map V.int))
 wl:ws.length=as.length
 w1:1<=ws.length
 w12:ws.length<=12
 wb:∀ w∈ws,1<=w/\w<=10 ^ 10
 na:pa∉X
 nw:pw∉X
def dQ (b:Bool) (H:Hp) (X:List Addr) (v:V):Prop:=∃ t pa pw us as ws,v= .ref t/\pZ b H X t pa pw us as ws
theorem pZ.same {b:Bool}{H H':Hp}{X:List Addr}{t pa pw:Addr}{us:List V}{as:List (List Int)}{ws:List Int}(P:pZ b H X t pa pw us as ws) (s:aN H H'):pZ b H' X t pa pw us as ws :=
 ⟨s _ _ P.h,P.pl.same s,s _ _ P.hw,P.wl,P.w1,P.w12,P.wb,P.na,P.nw⟩
theorem dQ.same {b:Bool}{H H':Hp}{X:List Addr}{v:V}(P:dQ b H X v) (s:aN H H'):dQ b H' X v :=by
 obtain ⟨t,pa,pw,us,as,ws,e,p⟩:=P;exact ⟨t,pa,pw,us,as,ws,e,p.same s⟩
theorem dQ.out {b:Bool}{H H':Hp}{X:List Addr}{d l:Addr}{v:V}(P:dQ b H X v) (D:eZ H d l) (m:l∈X) (o:dM d l H H'):dQ b H' X v :=by
 obtain ⟨t,pa,pw,us,as,ws,e,p⟩:=P
 exact ⟨t,pa,pw,us,as,ws,e,TS.out D o _ _ p.h,p.pl.out D (fun z=>p.na (z ▸ m)) o,o _ _ p.hw (aA6 D p.hw) (fun z=>p.nw (z ▸ m)),p.wl,p.w1,p.w12,p.wb,p.na,p.nw⟩
theorem dQ.lst {b:Bool}{H:Hp}{X:List Addr}{p:Addr}{xs ys:List V}{v:V}(P:dQ b H X v) (m:p∈X) (h:H p=some (.lst xs)):dQ b (aJ H p (.lst ys)) X v :=by
 obtain ⟨t,pa,pw,us,as,ws,e,q⟩:=P
 exact have ts:=TS.lst (ys:=ys) h
 ⟨t,pa,pw,us,as,ws,e,ts _ _ q.h,⟨by rw [aE (show pa≠p from fun z=>q.na (z ▸ m))];exact q.pl.h,q.pl.tw.mono fun _ _ z=>z.ts ts,q.pl.nd,q.pl.ok,q.pl.up⟩,by rw [aE (show pw≠p from fun z=>q.nw (z ▸ m))];exact q.hw,q.wl,q.w1,q.w12,q.wb,q.na,q.nw⟩
theorem dQ.more {b:Bool}{H:Hp}{X:List Addr}{p:Addr}{v:V}(P:dQ b H X v) (h:H p=none):dQ b H (p :: X) v :=by
 obtain ⟨t,pa,pw,us,as,ws,e,q⟩:=P
 exact ⟨t,pa,pw,us,as,ws,e,q.h,q.pl,q.hw,q.wl,q.w1,q.w12,q.wb,fun z=>by
  rcases bo.mp z with z | z
  ·rw [<- z,q.pl.h] at h;cases h
  ·exact q.na z,fun z=>by
  rcases bo.mp z with z | z
  ·rw [<- z,q.hw] at h;cases h
  ·exact q.nw z⟩
theorem dQ.less {b:Bool}{H:Hp}{X Y:List Addr}{v:V}(P:dQ b H X v) (h:∀ x∈Y,x∈X):dQ b H Y v :=by
 obtain ⟨t,pa,pw,us,as,ws,e,q⟩:=P
 exact ⟨t,pa,pw,us,as,ws,e,q.h,q.pl,q.hw,q.wl,q.w1,q.w12,q.wb,fun z=>q.na (h _ z),fun z=>q.nw (h _ z)⟩
def uE (b:Bool) (H:Hp) (zs:List V):Prop:=∀ v∈zs,∃ t es c,v= .ref t/\fY b H t es/\eE c es
theorem uE.ts {b:Bool}{H H':Hp}{zs:List V}(T:uE b H zs) (s:TS H H'):uE b H' zs:=fun v hv=>let ⟨t,es,c,e,h,o⟩:=T v hv;⟨t,es,c,e,h.ts s,o⟩
theorem uE.snoc {b:Bool}{H:Hp}{zs:List V}{t:Addr}{es:List En}{c:Int}(T:uE b H zs) (h:fY b H t es) (o:eE c es):uE b H (zs++[.ref t]):=fun v hv=>by
 rcases cj.mp hv with q | q
 ·exact T v q
 ·have:v= .ref t:=by simpa using q
  exact ⟨t,es,c,this,h,o⟩
theorem cD2 {α: Type}{zs:List α}(h:zs.length=2):∃ x y,zs=[x,y]:=by
 match zs,h with
 |[x,y],_=>exact ⟨x,y,rfl⟩
theorem wG {α: Type}{R:V->α->Prop}:∀ {us:List V}{as:List α}(i:Nat),bC R us as->bC R (us.eraseIdx i) (as.eraseIdx i)
 |[],[],_,_=>trivial
 |_ :: _,_ :: _,0,h=>h.2
 |_ :: _,_ :: _,i+1,h=>⟨h.1,wG i h.2⟩
 |[],_ :: _,_,z=>z.elim
 |_ :: _,[],_,z=>z.elim
theorem wA {α β: Type}(f:α->β):∀ (l:List α) (i:Nat),(l.map f).eraseIdx i=(l.eraseIdx i).map f
 |[],_=>rfl
 |_ :: _,0=>rfl
 |_ :: r,i+1=>by rw [au,tf,tf,au,wA f r i]
theorem bB5 {α: Type}{l:List α}{i:Nat}{x y:α}(h:y∈l.set i x):y∈l\/y=x:=by
 rcases List.mem_or_eq_of_mem_set h with q | q
 ·exact .inl q
 ·exact .inr q
theorem sV {H:Hp}{d l p:Addr}{xs ys:List V}(D:eZ H d l) (h:H p=some (.lst xs)) (n:p≠l):eZ (aJ H p (.lst ys)) d l:=by
 obtain ⟨sd,m,ls,q⟩:=D;exact ⟨sd,m,ls,by rw [aE (bN q.dc h (by intro z;cases z))];exact q.dc,by rw [aE n.symm];exact q.lc,q.s0,q.s1,q.n0,q.l0⟩
def mT (H:Hp) (v:V) (s:(Int×Int)×(Int×Int)):Prop:=∃ t p q,v= .ref t/\H t=some (.tup [.ref p,.ref q])/\bP H p s.1.1 s.1.2/\bP H q s.2.1 s.2.2/\qZ s.1/\qZ s.2/\1<=s.2.1
theorem mT.ts {H H':Hp}(t:TS H H') {v:V}{s:(Int×Int)×(Int×Int)}(h:mT H v s):mT H' v s :=by
 obtain ⟨a,p,q,e,h1,h2,h3,r⟩:=h;exact ⟨a,p,q,e,t _ _ h1,t _ _ h2,t _ _ h3,r⟩
def prD (s:(Int×Int)×(Int×Int)):PyData:= .tuple [kQ s.1.1 s.1.2,kQ s.2.1 s.2.2]
theorem bW3 {K:W.Frag}{H:Hp}{v:V}{s:(Int×Int)×(Int×Int)}(h:mT H v s):fN K H (prD s) v:=by
 obtain ⟨t,p,q,rfl,h1,h2,h3,_⟩:=h;exact ⟨t,_,rfl,aT.of h1,_,_,rfl,tK h2,_,_,rfl,tK h3,rfl⟩
theorem aW7:∀ ss:List ((Int×Int)×(Int×Int)),PyData.canLayAll0 (ss.map prD)=true/\PyData.depthAll (ss.map prD)<=2
 |[]=>⟨rfl,df _⟩
 |a :: r=>by
  obtain ⟨h1,h2⟩:=aW7 r;exists by simp [PyData.canLayAll0,prD,kQ,PyData.canLay0] at h1 ⊢;exact h1,?_;have e:(prD a).depth<=2:=by simp [prD,kQ,PyData.depth,PyData.depthAll]
  simp only [List.map_cons,PyData.depthAll] at h2 ⊢;omega
theorem aQ7 (ss:List ((Int×Int)×(Int×Int))):SeqAt.shaped (.list (ss.map prD))=true:=by
 obtain ⟨h1,h2⟩:=aW7 ss;simp only [SeqAt.shaped,PyData.canLay0,h1,Bool.true_and];exact ar (by simp only [PyData.depth];omega)
theorem bG1 {K:W.Frag}{H:Hp}{r:Addr}{zs:List V}{ss:List ((Int×Int)×(Int×Int))}(h:H r=some (.lst zs)) (tw:bC (mT H) zs ss):fN K H (.list (ss.map prD)) (.ref r) :=
 ⟨r,zs,rfl,bK.of h,tw.rep fun _ _ z=>bW3 z⟩
theorem xT {a b:Int}(ha:0<=a) (h1:a < 2 ^ 40) (hb:1<=b) (h2:b < 2 ^ 40):lW (aK a b):=by
 have:=rF (N:=2 ^ 40) ha h1 hb h2;exact ⟨this.1,this.2.1,this.2.2.1,this.2.2.2⟩
theorem bJ7 {K:W.Frag}{b:Bool}{H:Hp}{r:Addr}{ws:List V}{as:List (List Int)}(h:H r=some (.tup ws)) (tw:bC (cV b H) ws as):fN K H (.tuple (as.map (cB b))) (.ref r) :=
 ⟨r,ws,rfl,aT.of h,tw.rep fun _ _ z=>iY z⟩
theorem bZ7 (n m:Int):HT.lexLt [n] [m]=decide (n < m):=by
 rw [HT.lexLt_cons]
 split
 ·rename_i h
  subst h;simp [HT.lexLt_nil_nil]
 ·rfl
theorem bX4 {K:W.Frag}{H:Hp}{Q:VK}{x y:V}{a c:List Int}:∀ {b:Bool},cV b H x a->cV b H y c->Q (.bl (HT.lexLt a c)) H->cA4 K x y H Q
 |false,⟨n,e1,e2⟩,⟨m,e3,e4⟩,q=>by
  rw [e1,e3,bZ7] at q;exact .inl ⟨n,m,e2,e4,q⟩
 |true,⟨p,e1,h1⟩,⟨p',e2,h2⟩,q=> .inr ⟨p,p',a,c,e1,e2,aT.of h1,aT.of h2,q⟩
theorem yS {ns:List Int}(h:ns.Pairwise (· <= ·)) (nd:ns.Nodup):Ups (ns.map fun n=>[n]):=by
 unfold Ups;rw [tm];have:=vS h nd;exact this.imp fun {a b} q=>by rw [bZ7];exact ar q
theorem aA1 {H:Hp}:∀ {zs:List V}{as:List (List Int)},bC (cV true H) zs as->∃ bs:List Addr,zs=bs.map V.ref/\fA H bs as
 |[],[],_=>⟨[],rfl,rfl,fun i b ns h=>by simp at h⟩
 |v :: zs,a :: as,⟨⟨p,e,h⟩,t⟩=>by
  obtain ⟨bs,e2,l,k⟩:=aA1 t;exists p :: bs,by rw [e,e2];rfl,by simp [l],fun i b ns h1 h2=>?_
  cases i with
  |zero =>
   simp at h1 h2;subst h1 h2;exact h
  |succ i=>exact k i b ns (by simpa using h1) (by simpa using h2)
theorem zY {H:Hp}:∀ {bs:List Addr}{as:List (List Int)},fA H bs as->bC (cV true H) (bs.map V.ref) as
 |[],[],_=>trivial
 |[],_ :: _,⟨l,_⟩=>by simp at l
 |_ :: _,[],⟨l,_⟩=>by simp at l
 |b :: bs,a :: as,⟨l,k⟩=>⟨⟨b,rfl,k 0 b a rfl rfl⟩,zY ⟨by simpa using l,fun i x y h1 h2=>k (i+1) x y (by simpa using h1) (by simpa using h2)⟩⟩
theorem wC {H:Hp}:∀ {zs:List V}{as:List (List Int)},bC (cV false H) zs as->∃ ns:List Int,zs=ns.map V.int/\as=ns.map fun n=>[n]
 |[],[],_=>⟨[],rfl,rfl⟩
 |v :: zs,a :: as,⟨⟨n,e,h⟩,t⟩=>by
  obtain ⟨ns,e2,e3⟩:=wC t;exact ⟨n :: ns,by rw [h,e2];rfl,by rw [e,e3];rfl⟩
theorem fA.ts {H H':Hp}(s:TS H H') {bs:List Addr}{as:List (List Int)}(h:fA H bs as):fA H' bs as:=⟨h.1,fun i b ns h1 h2=>s _ _ (h.2 i b ns h1 h2)⟩
theorem vG {ns:List Int}(h:(ns.map fun n=>[n]).Nodup):ns.Nodup:=by
 rw [oj,tm] at h;rw [oj];exact h.imp fun z q=>z (by rw [q])
def aW9 (K:W.Frag):List V->Hp->VK->Prop:=fun xs H Q =>
 (∃ (p:Addr) (ns:List Int),xs=[.ref p]/\bK K H p (ns.map V.int)/\ns.length < 64/\∀ ns':List Int,ns'.Perm ns->ns'.Pairwise (· <= ·)->∀ l,H l=none->Q (.ref l) (aJ H l (.lst (ns'.map V.int)))) \/
 ∃ (p:Addr) (bs:List Addr) (nss:List (List Int)),xs=[.ref p]/\bK K H p (bs.map V.ref)/\bs.length < 64/\fA H bs nss/\nss.Nodup /\
  ∀ (bs':List Addr) (nss':List (List Int)),bs'.Perm bs->nss'.Perm nss->fA H bs' nss'->nss'.Pairwise (fun a b=>HT.lexLt a b=true)->∀ l,H l=none->Q (.ref l) (aJ H l (.lst (bs'.map V.ref)))
theorem aH0 {X:Cx}{k:Nat}(hr:bU k X.A):dL X (.builtin "sorted") (aW9 X.K):=bK2 aH4 (zG hr)
theorem cC6 {K:W.Frag}{H:Hp}{Q:VK}{l:Addr}{zs:List V}{as:List (List Int)}(hl:H l=some (.lst zs)) (nd:as.Nodup) (h64:zs.length < 64):∀ {b:Bool},bC (cV b H) zs as ->
  (∀ zs' as' l',as'.Perm as->Ups as'->H l'=none->bC (cV b (aJ H l' (.lst zs'))) zs' as'->Q (.ref l') (aJ H l' (.lst zs')))->aW9 K [.ref l] H Q
 |false,tw,q=>by
  obtain ⟨ns,rfl,rfl⟩:=wC tw;refine .inl ⟨l,ns,rfl,bK.of hl,by simpa using h64,fun ns' p s l' hl'=>q _ (ns'.map fun n=>[n]) l' (p.map _) (yS s (p.symm.nodup (vG nd))) hl' (tH ns')⟩
 |true,tw,q=>by
  obtain ⟨bs,rfl,t⟩:=aA1 tw;exact .inr ⟨l,bs,as,rfl,bK.of hl,by simpa using h64,t,nd,fun bs' nss' p1 p2 t' s l' hl'=>q _ nss' l' p2 s hl' (zY (fA.ts (.of (aA hl' _)) t'))⟩
def ltB (as:List (List Int)) (k:Nat):Bool:=HT.lexLt (as.getD k []) (as.getD (k+1) [])
def zE (as:List (List Int)):Bool:=(List.range (as.length - 1)).all (ltB as)
theorem zB {as:List (List Int)}(h:Ups as):zE as=true:=by
 unfold zE;rw [ug];intro k hk;have hk:k < as.length - 1:=by simpa using hk
 have a:k < as.length:=∅
 have b:k+1 < as.length:=∅
 unfold ltB;rw [eG a,eG b];exact rl.mp h k (k+1) a b ∅
theorem aX5 (as:List (List Int)):((List.range (as.length - 1)).map (ltB as)).all id=zE as:=by unfold zE;rw [List.all_map];rfl
theorem aK1 {as:List (List Int)}{i:Nat}{a:List Int}(h:as[i]?=some a):as.getD i []=a:=by simp [List.getD,h]
theorem bU2 {as:List (List Int)}{i:Nat}{a c:List Int}(h:as[i]?=some a) (k:as[i+1]?=some c):ltB as i=HT.lexLt a c:=by unfold ltB;rw [aK1 h,aK1 k]
section
variable {α: Type} [DecidableEq α]
abbrev Pl (α: Type):=Bool×α
structure eW (α: Type) where
 o:α->Int
 p:α->Int
 l:α×α->Int
def dF (prs:List (α×α)) (x:α):List α:=(prs.filter fun e=>decide (e.1=x)).map (·.2)
def fV (prs:List (α×α)) (y:α):List α:=(prs.filter fun e=>decide (e.2=y)).map (·.1)
def dZ (prs:List (α×α)) (S:eW α):Pl α->List (Pl α)
 |(true,x)=>(dF prs x).map fun y=>(false,y)
 |(false,y)=>((fV prs y).filter fun x=>decide (0 < S.l (x,y))).map fun x=>(true,x)
def kR (S:eW α):Pl α->Bool
 |(true,_)=>false
 |(false,y)=>decide (0 < S.p y)
abbrev Ah (α: Type):=List (Pl α×Option (Pl α))
def aV (ah:Ah α):List (Pl α):=ah.map (·.1)
def gZ (S:eW α) (cur:Pl α):List (Pl α)->Ah α->Ah α×Option (Pl α)
 |[],ah=>(ah,none)
 |z :: zs,ah=>if z∈aV ah then gZ S cur zs ah else if kR S z=true then (ah++[(z,some cur)],some z) else gZ S cur zs (ah++[(z,some cur)])
def cZ (prs:List (α×α)) (S:eW α):Nat->Nat->Ah α->Ah α×Option (Pl α)
 |0,_,ah=>(ah,none)
 |f+1,d,ah=>match (aV ah)[d]? with
  |none=>(ah,none)
  |some cur=>match gZ S cur (dZ prs S cur) ah with
   |(ah',some z)=>(ah',some z)
   |(ah',none)=>cZ prs S f (d+1) ah'
def nY (ks:List α) (S:eW α):Ah α:=(ks.filter fun x=>decide (0 < S.o x)).map fun x=>((true,x),none)
def eL (ah:Ah α) (z:Pl α):Option (Option (Pl α)):=(ah.find? fun e=>decide (e.1=z)).map (·.2)
def lG (ah:Ah α):Nat->Pl α->List (Pl α)
 |0,_=>[]
 |f+1,z=>z :: match eL ah z with
  |some (some c)=>lG ah f c
  |_=>[]
inductive Wf (prs:List (α×α)) (S:eW α) (ks:List α):Ah α->Prop where
 |nil:Wf prs S ks []
 |root {ah:Ah α}{x:α}:Wf prs S ks ah->(true,x)∉aV ah->x∈ks->0 < S.o x->Wf prs S ks (ah++[((true,x),none)])
 |step {ah:Ah α}{z c:Pl α}:Wf prs S ks ah->z∉aV ah->c∈aV ah->z∈dZ prs S c->Wf prs S ks (ah++[(z,some c)])
theorem cI (ah:Ah α) (e:Pl α×Option (Pl α)):aV (ah++[e])=aV ah++[e.1]:=by unfold aV;rw [bp];rfl
theorem wN {ah:Ah α}{e:Pl α×Option (Pl α)}{z:Pl α}(h:z∈aV ah):eL (ah++[e]) z=eL ah z:=by
 unfold eL;rw [List.find?_append];obtain ⟨x,hx,ex⟩:=am.mp h
 cases q:ah.find? fun e=>decide (e.1=z) with
 |none=>exact absurd (ar ex) (nh.mp q x hx)
 |some y=>rfl
theorem wX {ah:Ah α}{e:Pl α×Option (Pl α)}(h:e.1∉aV ah):eL (ah++[e]) e.1=some e.2:=by
 unfold eL;rw [List.find?_append];have:(ah.find? fun x=>decide (x.1=e.1))=none:=nh.mpr fun x hx z=>h (am.mpr ⟨x,hx,cf z⟩)
 rw [this];simp
theorem Wf.nodup {prs:List (α×α)}{S:eW α}{ks:List α}{ah:Ah α}(w:Wf prs S ks ah):(aV ah).Nodup:=by
 induction w with
 |nil=>exact jj
 |root _ h _ _ ih=>rw [cI];exact gK ih h
 |step _ h _ _ ih=>rw [cI];exact gK ih h
inductive kU (prs:List (α×α)) (S:eW α) (ks:List α):List (Pl α)->Prop where
 |root {x:α}:x∈ks->0 < S.o x->kU prs S ks [(true,x)]
 |step {z c:Pl α}{r:List (Pl α)}:kU prs S ks (c :: r)->z∈dZ prs S c->z∉c :: r->kU prs S ks (z :: c :: r)
inductive Tr (ah:Ah α):List (Pl α)->Prop where
 |last {z:Pl α}:eL ah z=some none->Tr ah [z]
 |cons {z c:Pl α}{r:List (Pl α)}:eL ah z=some (some c)->Tr ah (c :: r)->Tr ah (z :: c :: r)
theorem jR {ah:Ah α}{z:Pl α}{o:Option (Pl α)}(h:eL ah z=some o):z∈aV ah:=by
 unfold eL at h;obtain ⟨e,h1,_⟩:=ju.mp h;exact am.mpr ⟨e,pe h1,by have q:=List.find?_some h1;exact cf q⟩
theorem Tr.keys {ah:Ah α}{zs:List (Pl α)}(t:Tr ah zs):∀ c∈zs,c∈aV ah:=by
 induction t with
 |last h=>intro c hc;rw [ck.mp hc];exact jR h
 |cons h _ ih =>
  intro c hc;rcases bo.mp hc with e | e
  ·rw [e];exact jR h
  ·exact ih c e
theorem Tr.more {ah:Ah α}{zs:List (Pl α)}(e:Pl α×Option (Pl α)) (t:Tr ah zs):Tr (ah++[e]) zs:=by
 induction t with
 |last h=>exact .last (by rw [wN (jR h)];exact h)
 |cons h _ ih=>exact .cons (by rw [wN (jR h)];exact h) ih
theorem Tr.back {ah:Ah α}{z:Pl α}{r:List (Pl α)}(t:Tr ah (z :: r)):∀ f,r.length < f->lG ah f z=z :: r:=by
 generalize hz:z :: r=zs at t
 induction t generalizing z r with
 |last h =>
  intro f hf
  cases hz
  cases f with
  |zero=>omega
  |succ f=>simp only [lG,h]
 |cons h _ ih =>
  intro f hf
  cases hz
  cases f with
  |zero=>omega
  |succ f =>
   simp only [lG,h];rw [ih rfl f (by simpa using hf)]
theorem kU.nodup {prs:List (α×α)}{S:eW α}{ks:List α}{zs:List (Pl α)}(p:kU prs S ks zs):zs.Nodup:=by
 induction p with
 |root=>simp
 |step _ _ h ih=>exact fh.mpr ⟨h,ih⟩
theorem Wf.path {prs:List (α×α)}{S:eW α}{ks:List α}{ah:Ah α}(w:Wf prs S ks ah):∀ z∈aV ah,∃ r,kU prs S ks (z :: r)/\Tr ah (z :: r):=by
 induction w with
 |nil=>intro z hz;exact absurd hz cu
 |@root ah x _ h hk ho ih =>
  intro z hz;rw [cI] at hz;rcases cj.mp hz with q | q
  ·obtain ⟨r,p,t⟩:=ih z q;exact ⟨r,p,t.more _⟩
  ·rw [ck.mp q];exact ⟨[],.root hk ho,.last (wX h)⟩
 |@step ah w c _ h hc hn ih =>
  intro z hz;rw [cI] at hz;rcases cj.mp hz with q | q
  ·obtain ⟨r,p,t⟩:=ih z q;exact ⟨r,p,t.more _⟩
  ·rw [ck.mp q];obtain ⟨r,p,t⟩:=ih c hc;exact ⟨c :: r,.step p hn fun z=>h (t.keys _ z),.cons (wX h) (t.more _)⟩
theorem yH {prs:List (α×α)}{S:eW α}{ks:List α}{cur:Pl α}:∀ (zs:List (Pl α)) (ah:Ah α),Wf prs S ks ah->cur∈aV ah->(∀ z∈zs,z∈dZ prs S cur) ->
  Wf prs S ks (gZ S cur zs ah).1/\(∃ more,(gZ S cur zs ah).1=ah++more) /\
  (∀ z,(gZ S cur zs ah).2=some z->z∈aV (gZ S cur zs ah).1/\kR S z=true) /\
  ((gZ S cur zs ah).2=none->(∀ z∈zs,z∈aV (gZ S cur zs ah).1)/\∀ z∈aV (gZ S cur zs ah).1,z∈aV ah\/kR S z=false)
 |[],ah,w,_,_=>⟨w,⟨[],by simp [gZ]⟩,fun z h=>(by cases h),fun _=>⟨fun z h=>absurd h cu,fun z h=> .inl h⟩⟩
 |z :: zs,ah,w,hc,hn=>by
  have hz:=hn z bj;have hn':∀ y∈zs,y∈dZ prs S cur:=fun y hy=>hn y (ba _ hy)
  unfold gZ
  by_cases c:z∈aV ah
  ·rw [bh c];obtain ⟨i1,⟨m,i2⟩,i3,i4⟩:=yH zs ah w hc hn';exists i1,⟨m,i2⟩,i3,fun q=>⟨fun y hy=>?_,(i4 q).2⟩;rcases bo.mp hy with e | e
   ·rw [e,i2];unfold aV;rw [bp];exact fu _ c
   ·exact (i4 q).1 y e
  ·rw [ap c];have w':Wf prs S ks (ah++[(z,some cur)]):= .step w c hc hz
   by_cases d:kR S z=true
   ·rw [bh d];exists w',⟨_,rfl⟩,fun y e=>?_,fun e=>by cases e
    cases e
    rw [cI];exact ⟨dh _ (ck.mpr rfl),d⟩
   ·rw [ap d];obtain ⟨i1,⟨m,i2⟩,i3,i4⟩:=yH zs (ah++[(z,some cur)]) w' (by rw [cI];exact fu _ hc) hn';exists i1,⟨(z,some cur) :: m,by rw [i2,xw];rfl⟩,i3,fun q=>⟨fun y hy=>?_,fun y hy=>?_⟩
    ·rcases bo.mp hy with e | e
     ·rw [e,i2];unfold aV;rw [bp,bp];exact fu _ (dh _ (ck.mpr rfl))
     ·exact (i4 q).1 y e
    ·rcases (i4 q).2 y hy with e | e
     ·rw [cI] at e;rcases cj.mp e with e | e
      ·exact .inl e
      ·rw [ck.mp e];exact .inr (oq.mpr d)
     ·exact .inr e
def fM (ks qs:List α):List (Pl α):=ks.map (fun x=>(true,x))++qs.map fun y=>(false,y)
theorem Wf.sub {prs:List (α×α)}{S:eW α}{ks qs:List α}(hp:∀ e∈prs,e.1∈ks/\e.2∈qs) {ah:Ah α}(w:Wf prs S ks ah):∀ z∈aV ah,z∈fM ks qs:=by
 have nx:∀ c z,z∈dZ prs S c->z∈fM ks qs:=fun c z hz=>by
  obtain ⟨b,a⟩:=c;unfold fM
  cases b
  ·obtain ⟨x,hx,rfl⟩:=am.mp hz;obtain ⟨e,he,rfl⟩:=am.mp (br.mp hx).1;exact fu _ (am.mpr ⟨e.1,(hp e (br.mp he).1).1,rfl⟩)
  ·obtain ⟨y,hy,rfl⟩:=am.mp hz;obtain ⟨e,he,rfl⟩:=am.mp hy;exact dh _ (am.mpr ⟨e.2,(hp e (br.mp he).1).2,rfl⟩)
 induction w with
 |nil=>intro z hz;exact absurd hz cu
 |@root ah x _ h hk ho ih =>
  intro z hz;rw [cI] at hz;rcases cj.mp hz with q | q
  ·exact ih z q
  ·rw [ck.mp q];exact fu _ (am.mpr ⟨x,hk,rfl⟩)
 |@step ah w c _ h hc hn ih =>
  intro z hz;rw [cI] at hz;rcases cj.mp hz with q | q
  ·exact ih z q
  ·rw [ck.mp q];exact nx c w hn
theorem iM {β: Type} [DecidableEq β]:∀ {l m:List β},l.Nodup->(∀ x∈l,x∈m)->l.length<=m.length
 |[],m,_,_=>df _
 |x :: r,m,nd,hs=>by
  have hx:=hs x bj;have nd:=fh.mp nd;have ih:=iM (m:=m.erase x) nd.2 fun y hy=>(List.mem_erase_of_ne fun e=>nd.1 (by rw [<- e];exact hy)).mpr (hs y (ba _ hy))
  rw [List.length_erase_of_mem hx] at ih;have:=List.length_pos_of_mem hx;rw [dq];omega
theorem aJ5 {prs:List (α×α)}{S:eW α}{ks qs:List α}(hp:∀ e∈prs,e.1∈ks/\e.2∈qs):∀ (f d:Nat) (ah:Ah α),Wf prs S ks ah->(fM ks qs).length < f+d->(∀ i c,i < d->(aV ah)[i]?=some c->∀ z∈dZ prs S c,z∈aV ah)->(∀ z∈aV ah,kR S z=false) ->
  Wf prs S ks (cZ prs S f d ah).1/\(∃ more,(cZ prs S f d ah).1=ah++more) /\
  (∀ z,(cZ prs S f d ah).2=some z->z∈aV (cZ prs S f d ah).1/\kR S z=true) /\
  ((cZ prs S f d ah).2=none->(∀ c∈aV (cZ prs S f d ah).1,∀ z∈dZ prs S c,z∈aV (cZ prs S f d ah).1)/\∀ z∈aV (cZ prs S f d ah).1,kR S z=false)
 |0,d,ah,w,hf,hd,hr=>by
  have l:=iM w.nodup (w.sub hp);have e0:cZ prs S 0 d ah=(ah,none):=rfl;rw [e0]
  dsimp only
  exists w,⟨[],by simp⟩,fun z e=>(by cases e),fun _=>⟨fun c hc=>?_,hr⟩;obtain ⟨i,hi,e⟩:=ki.mp hc;exact hd i c ∅ (by rw [ak hi,e])
 |f+1,d,ah,w,hf,hd,hr=>by
  cases q:(aV ah)[d]? with
  |none =>
   have e0:cZ prs S (f+1) d ah=(ah,none):=by simp only [cZ,q]
   rw [e0]
   dsimp only
   have l:(aV ah).length<=d:=rn.mp q;exists w,⟨[],by simp⟩,fun z e=>(by cases e),fun _=>⟨fun c hc=>?_,hr⟩;obtain ⟨i,hi,e⟩:=ki.mp hc;exact hd i c ∅ (by rw [ak hi,e])
  |some cur =>
   have mc:=bq q;obtain ⟨i1,⟨m,i2⟩,i3,i4⟩:=yH (dZ prs S cur) ah w mc fun z hz=>hz
   cases r:gZ S cur (dZ prs S cur) ah with
   |mk ah' o =>
    rw [r] at i1 i2 i3 i4
    dsimp only at i1 i2 i3 i4
    cases o with
    |some z =>
     have e0:cZ prs S (f+1) d ah=(ah',some z):=by simp only [cZ,q,r]
     rw [e0];exact ⟨i1,⟨m,i2⟩,i3,fun e=>by cases e⟩
    |none =>
     obtain ⟨j1,j2⟩:=i4 rfl;have e0:cZ prs S (f+1) d ah=cZ prs S f (d+1) ah':=by simp only [cZ,q,r]
     rw [e0];have ke:aV ah'=aV ah++aV m:=by rw [i2];unfold aV;rw [bp]
     have ind:=aJ5 hp f (d+1) ah' i1 ∅ (fun i c hi hc z hz=>?_) fun z hz=>?_
     ·obtain ⟨k1,⟨m',k2⟩,k3,k4⟩:=ind;exact ⟨k1,⟨m++m',by rw [k2,i2,xw]⟩,k3,k4⟩
     ·by_cases e:i=d
      ·subst e;rw [ke,ow (bw.mp q).1,q] at hc
       cases hc
       exact j1 z hz
      ·have li:=(bw.mp q).1;rw [ke,ow ∅] at hc;rw [ke];exact fu _ (hd i c ∅ hc z hz)
     ·rcases j2 z hz with e | e
      ·exact hr z e
      ·exact e
theorem xI {prs:List (α×α)}{S:eW α}{ks:List α}(nd:ks.Nodup):Wf prs S ks (nY ks S)/\aV (nY ks S)=(ks.filter fun x=>decide (0 < S.o x)).map fun x=>(true,x):=by
 refine ⟨?_,by unfold nY aV;rw [cz];rfl⟩;unfold nY;have key:∀ l:List α,l.Nodup->(∀ x∈l,x∈ks/\0 < S.o x)->∀ r:List α,(∀ x∈l,x∉r)->Wf prs S ks (r.map fun x=>((true,x),(none:Option (Pl α))))->Wf prs S ks ((r++l).map fun x=>((true,x),none)):=by
  intro l
  induction l with
  |nil=>intro _ _ r _ w;simpa using w
  |cons x l ih =>
   intro nd hk r hr w;have nd:=fh.mp nd;have:=ih nd.2 (fun y hy=>hk y (ba _ hy)) (r++[x]) (fun y hy=>?_) ?_
   ·simpa using this
   ·rw [cj,not_or];exists hr y (ba _ hy),fun z=>nd.1 (by rw [<- ck.mp z];exact hy)
   ·rw [bp];refine .root w (fun z=>?_) (hk x bj).1 (hk x bj).2;unfold aV at z;rw [cz] at z;obtain ⟨y,hy,e⟩:=am.mp z
    cases e
    exact hr x bj hy
 have:=key (ks.filter fun x=>decide (0 < S.o x)) (nd.sublist gq) (fun x hx=>⟨(br.mp hx).1,cf (br.mp hx).2⟩) [] (fun _ _=>cu) .nil
 simpa using this
def bY:List α->List (α×α)
 |y :: x :: r=>(x,y) :: bY r
 |_=>[]
def bS:List α->List (α×α)
 |_ :: x :: y :: r=>(x,y) :: bS (y :: r)
 |_=>[]
def dl:Bool->List α->α×α->Int
 |false,y :: x :: r,p=>(if p=(x,y) then 1 else 0)+dl true (x :: r) p
 |true,x :: y :: r,p=> -(if p=(x,y) then 1 else 0)+dl false (y :: r) p
 |_,_,_=>0
def fO (prs:List (α×α)) (l:α×α->Int) (x:α):Int:=((prs.filter fun e=>decide (e.1=x)).map l).sum
def fQ (prs:List (α×α)) (l:α×α->Int) (y:α):Int:=((prs.filter fun e=>decide (e.2=y)).map l).sum
theorem eB {β: Type}(f g:β->Int):∀ l:List β,(l.map fun x=>f x+g x).sum=(l.map f).sum+(l.map g).sum
 |[]=>rfl
 |x :: r=>by rw [au,di,eB f g r,au,di,au,di];omega
theorem oP {β: Type}(a:Int) (f:β->Int):∀ l:List β,(l.map fun x=>a * f x).sum=a * (l.map f).sum
 |[]=>by simp
 |x :: r=>by rw [au,di,oP a f r,au,di,Int.mul_add]
theorem eK {β: Type}{f:β->Int}:∀ {l:List β},(∀ x∈l,f x=0)->(l.map f).sum=0
 |[],_=>rfl
 |x :: r,h=>by rw [au,di,h x bj,eK fun y hy=>h y (ba _ hy)];rfl
theorem aJ3 {β: Type} [DecidableEq β] {p:β}:∀ {l:List β},l.Nodup->p∈l->(l.map fun x=>if x=p then (1:Int) else 0).sum=1
 |x :: r,nd,h=>by
  obtain ⟨n1,n2⟩:=fh.mp nd;rw [au,di]
  by_cases c:x=p
  ·rw [bh c,eK fun y hy=>ap fun e=>n1 (by rw [c, <- e];exact hy)];rfl
  ·have hr:p∈r:=by
    rcases bo.mp h with e | e
    ·exact absurd e.symm c
    ·exact e
   rw [ap c,aJ3 n2 hr];rfl
theorem rB {prs:List (α×α)}(nd:prs.Nodup) {x y:α}(h:(x,y)∈prs) (q:α×α->Bool):((prs.filter q).map fun p=>if p=(x,y) then (1:Int) else 0).sum=if q (x,y)=true then 1 else 0:=by
 by_cases c:q (x,y)=true
 ·rw [bh c];exact aJ3 (nd.sublist gq) (br.mpr ⟨h,c⟩)
 ·rw [ap c];exact eK fun p hp=>ap fun e=>c (by rw [<- e];exact (br.mp hp).2)
theorem uW (prs:List (α×α)) (f g:α×α->Int) (x:α):fO prs (fun p=>f p+g p) x=fO prs f x+fO prs g x:=eB f g _
theorem tP (prs:List (α×α)) (f g:α×α->Int) (x:α):fQ prs (fun p=>f p+g p) x=fQ prs f x+fQ prs g x:=eB f g _
theorem jT {prs:List (α×α)}{S:eW α}{x y:α}(h:(false,y)∈dZ prs S (true,x)):(x,y)∈prs:=by
 obtain ⟨z,hz,e⟩:=am.mp h
 cases e
 obtain ⟨e,he,rfl⟩:=am.mp hz;obtain ⟨h1,h2⟩:=br.mp he;have:e.1=x:=cf h2;rw [<- this];exact h1
theorem pB {prs:List (α×α)}{S:eW α}{x y:α}(h:(true,x)∈dZ prs S (false,y)):(x,y)∈prs/\0 < S.l (x,y):=by
 obtain ⟨z,hz,e⟩:=am.mp h
 cases e
 obtain ⟨h1,h2⟩:=br.mp hz;obtain ⟨e,he,rfl⟩:=am.mp h1;obtain ⟨h3,h4⟩:=br.mp he;have:e.2=y:=cf h4;exists by rw [<- this];exact h3,cf h2
theorem gJ {prs:List (α×α)}{S:eW α}{z c:Pl α}(h:z∈dZ prs S c):z.1= !c.1:=by
 obtain ⟨b,a⟩:=c
 cases b
 ·obtain ⟨x,_,rfl⟩:=am.mp h;rfl
 ·obtain ⟨x,_,rfl⟩:=am.mp h;rfl
theorem lZ {b:Bool}{a c:α}{r:List α}:dl b (a :: c :: r)=fun p=>match b with
  |false=>(if p=(c,a) then 1 else 0)+dl true (c :: r) p
  |true=> -(if p=(a,c) then 1 else 0)+dl false (c :: r) p:=by
 cases b <;> rfl
theorem kU.sums {prs:List (α×α)}{S:eW α}{ks:List α}(nd:prs.Nodup) {zs:List (Pl α)}(p:kU prs S ks zs):∃ z r w,zs=z :: r/\(zs.map (·.2)).getLast?=some w/\w∈ks/\0 < S.o w /\
  (∀ u,fO prs (dl z.1 (zs.map (·.2))) u=(if u=w then 1 else 0) - (if z.1=true/\u=z.2 then 1 else 0))/\(∀ v,fQ prs (dl z.1 (zs.map (·.2))) v=if z.1=false/\v=z.2 then 1 else 0):=by
 induction p with
 |@root x hx ho =>
  exists (true,x),[],x,rfl,rfl,hx,ho,fun u=>?_,fun v=>?_
  ·have:fO prs (dl true [x]) u=0:=eK fun _ _=>rfl
   rw [show (([(true,x)]:List (Pl α)).map (·.2))=[x] from rfl,this]
   by_cases c:u=x
   ·simp [c]
   ·simp [c]
  ·have:fQ prs (dl true [x]) v=0:=eK fun _ _=>rfl
   rw [show (([(true,x)]:List (Pl α)).map (·.2))=[x] from rfl,this];simp
 |@step z c r _ hn hz ih =>
  obtain ⟨z',r',w,e,e1,e2,e3,ir,ic⟩:=ih
  cases e
  have sd:=gJ hn;exists z,c :: r,w,rfl,?_,e2,e3,?_
  ·rw [au,au,List.getLast?_cons_cons];exact e1
  obtain ⟨bc,ac⟩:=c;obtain ⟨bz,az⟩:=z;have sd:bz= !bc:=sd;subst sd
  cases bc
  ·obtain ⟨h1,_⟩:=pB hn;have es:((((true,az):Pl α) :: (false,ac) :: r).map (·.2))=az :: ac :: r.map (·.2):=rfl;exists fun u=>?_,fun v=>?_
   ·have:=ir u;show fO prs (dl true (((true,az) :: (false,ac) :: r).map (·.2))) u=_;rw [es,lZ,uW];have e4:fO prs (fun p=> -(if p=(az,ac) then (1:Int) else 0)) u= -(if u=az then 1 else 0):=by
     have:=rB nd h1 fun e=>decide (e.1=u)
     have m:=oP (-1) (fun p:α×α=>if p=(az,ac) then (1:Int) else 0) (prs.filter fun e=>decide (e.1=u));unfold fO;rw [show (fun p:α×α=> -(if p=(az,ac) then (1:Int) else 0))=fun p=> -1 * (if p=(az,ac) then (1:Int) else 0) from funext fun p=>by rw [Int.neg_one_mul],m,this]
     by_cases c:u=az
     ·simp [c]
     ·simp [c,Ne.symm c,eq_comm]
    rw [e4];have:fO prs (dl false (ac :: r.map (·.2))) u=_:=this;rw [this]
    by_cases c:u=az
    ·simp [c];omega
    ·simp [c]
   ·have:=ic v;show fQ prs (dl true (((true,az) :: (false,ac) :: r).map (·.2))) v=_;rw [es,lZ,tP];have e4:fQ prs (fun p=> -(if p=(az,ac) then (1:Int) else 0)) v= -(if v=ac then 1 else 0):=by
     have:=rB nd h1 fun e=>decide (e.2=v)
     have m:=oP (-1) (fun p:α×α=>if p=(az,ac) then (1:Int) else 0) (prs.filter fun e=>decide (e.2=v));unfold fQ;rw [show (fun p:α×α=> -(if p=(az,ac) then (1:Int) else 0))=fun p=> -1 * (if p=(az,ac) then (1:Int) else 0) from funext fun p=>by rw [Int.neg_one_mul],m,this]
     by_cases c:v=ac
     ·simp [c]
     ·simp [c,Ne.symm c,eq_comm]
    rw [e4];have:fQ prs (dl false (ac :: r.map (·.2))) v=_:=this;rw [this]
    by_cases c:v=ac
    ·simp [c]
    ·simp [c]
  ·have h1:=jT hn;have es:((((false,az):Pl α) :: (true,ac) :: r).map (·.2))=az :: ac :: r.map (·.2):=rfl;exists fun u=>?_,fun v=>?_
   ·have:=ir u;show fO prs (dl false (((false,az) :: (true,ac) :: r).map (·.2))) u=_;rw [es,lZ,uW];have e4:fO prs (fun p=>if p=(ac,az) then (1:Int) else 0) u=if u=ac then 1 else 0:=by
     have:=rB nd h1 fun e=>decide (e.1=u)
     unfold fO;rw [this]
     by_cases c:u=ac
     ·simp [c]
     ·simp [c];exact fun z=>c z.symm
    rw [e4];have:fO prs (dl true (ac :: r.map (·.2))) u=_:=this;rw [this]
    by_cases c:u=ac
    ·simp [c];omega
    ·simp [c]
   ·have:=ic v;show fQ prs (dl false (((false,az) :: (true,ac) :: r).map (·.2))) v=_;rw [es,lZ,tP];have e4:fQ prs (fun p=>if p=(ac,az) then (1:Int) else 0) v=if v=az then 1 else 0:=by
     have:=rB nd h1 fun e=>decide (e.2=v)
     unfold fQ;rw [this]
     by_cases c:v=az
     ·simp [c]
     ·simp [c];exact fun z=>c z.symm
    rw [e4];have:fQ prs (dl true (ac :: r.map (·.2))) v=_:=this;rw [this]
    by_cases c:v=az
    ·simp [c]
    ·simp [c]
theorem sS (e p:α×α) (l:List (α×α)):((List.count e (p :: l):Nat):Int)=(if e=p then 1 else 0)+((List.count e l:Nat):Int):=by
 by_cases c:e=p
 ·subst c;rw [List.count_cons_self,bh rfl];omega
 ·rw [List.count_cons_of_ne (Ne.symm c),ap c,jw]
theorem uY:∀ (as:List α) (e:α×α),dl false as e=((bY as).count e:Int) - ((bS as).count e:Int)
 |[],e=>rfl
 |[_],e=>rfl
 |[y,x],e=>by
  show (if e=(x,y) then (1:Int) else 0)+0=(((List.count e ((x,y) :: ([]:List (α×α)))):Nat):Int) - 0;rw [sS];simp
 |y :: x :: y' :: r,e=>by
  have ih:=uY (y' :: r) e;show (if e=(x,y) then (1:Int) else 0)+(-(if e=(x,y') then 1 else 0)+dl false (y' :: r) e)=(((List.count e ((x,y) :: bY (y' :: r))):Nat):Int) - (((List.count e ((x,y') :: bS (y' :: r))):Nat):Int);rw [ih,sS,sS];omega
def alt:Bool->List (Pl α)->Prop
 |_,[]=>True
 |b,z :: r=>z.1=b/\alt (!b) r
theorem kU.alt {prs:List (α×α)}{S:eW α}{ks:List α}{zs:List (Pl α)}(p:kU prs S ks zs):∀ z r,zs=z :: r->Mine.alt z.1 zs:=by
 induction p with
 |root=>intro z r e;cases e;exact ⟨rfl,trivial⟩
 |@step z c r _ hn _ ih =>
  intro z' r' e
  cases e
  have:=ih c r rfl;have sd:=gJ hn;exists rfl,?_;rw [sd,Bool.not_not];exact this
theorem aC3:∀ {zs:List (Pl α)},alt false zs->∀ e∈bS (zs.map (·.2)),(true,e.1)∈zs
 |[],_,e,h=>by simp [bS] at h
 |[_],_,e,h=>by simp [bS] at h
 |[_,_],_,e,h=>by simp [bS] at h
 |z0 :: z1 :: z2 :: r,⟨_,a1,a2,a3⟩,e,h=>by
  have h:e∈(z1.2,z2.2) :: bS ((z2 :: r).map (·.2)):=h;rcases bo.mp h with q | q
  ·have:(true,e.1)=z1:=by
    rw [q];exact wo a1.symm rfl
   rw [this];exact ba _ bj
  ·exact ba _ (ba _ (aC3 (zs:=z2 :: r) ⟨a2,a3⟩ e q))
theorem uX:∀ {zs:List (Pl α)},alt false zs->zs.Nodup->(bS (zs.map (·.2))).Nodup
 |[],_,_=>jj
 |[_],_,_=>jj
 |[_,_],_,_=>jj
 |z0 :: z1 :: z2 :: r,⟨_,a1,a2,a3⟩,nd=>by
  have nd2:=(fh.mp (fh.mp nd).2)
  refine fh.mpr ⟨fun h=>nd2.1 ?_,uX (zs:=z2 :: r) ⟨a2,a3⟩ nd2.2⟩;have:=aC3 (zs:=z2 :: r) ⟨a2,a3⟩ _ h;have e:z1=(true,z1.2):=wo a1 rfl;rw [e];exact this
theorem kU.prs {prs:List (α×α)}{S:eW α}{ks:List α}{zs:List (Pl α)}(p:kU prs S ks zs):∀ z r,zs=z :: r ->
  (z.1=false->(∀ e∈bY (zs.map (·.2)),e∈prs)/\∀ e∈bS (zs.map (·.2)),e∈prs/\0 < S.l e) /\
  (z.1=true->(∀ e∈bY (r.map (·.2)),e∈prs)/\∀ e∈bS (z.2 :: zs.map (·.2)),e∈prs/\0 < S.l e):=by
 induction p with
 |@root x _ _ =>
  intro z r e
  cases e
  exact ⟨fun h=>(by cases h),fun _=>⟨fun e h=>by simp [bY] at h,fun e h=>by simp [bS] at h⟩⟩
 |@step z c r _ hn _ ih =>
  intro z' r' e
  cases e
  obtain ⟨i1,i2⟩:=ih c r rfl;obtain ⟨bc,ac⟩:=c;obtain ⟨bz,az⟩:=z;have sd:bz= !bc:=gJ hn;subst sd
  cases bc
  ·obtain ⟨j1,j2⟩:=i1 rfl;obtain ⟨h1,h2⟩:=pB hn;exists fun h=>(by cases h),fun _=>⟨j1,fun e he=>?_⟩;have he:e∈(az,ac) :: bS (ac :: r.map (·.2)):=he;rcases bo.mp he with q | q
   ·rw [q];exact ⟨h1,h2⟩
   ·exact j2 e q
  ·obtain ⟨j1,j2⟩:=i2 rfl;have h1:=jT hn;exists fun _=>⟨fun e he=>?_,fun e he=>?_⟩,fun h=>(by cases h)
   ·have he:e∈(ac,az) :: bY (r.map (·.2)):=he;rcases bo.mp he with q | q
    ·rw [q];exact h1
    ·exact j1 e q
   ·cases r with
    |nil=>simp [bS] at he
    |cons c2 r2=>exact j2 e he
def jU (S:eW α) (as:List α) (y w:α):Int:=(S.p y :: (bS as).map S.l).foldl min (S.o w)
def kN (S:eW α) (as:List α) (y w:α) (a:Int):eW α:=⟨fun x=>if x=w then S.o x - a else S.o x,fun z=>if z=y then S.p z - a else S.p z,fun e=>S.l e+a * dl false as e⟩
structure Fl (prs:List (α×α)) (ks qs:List α) (o0 p0:α->Int) (S:eW α):Prop where
 o:∀ x∈ks,0<=S.o x
 p:∀ y∈qs,0<=S.p y
 l:∀ e∈prs,0<=S.l e
 ro:∀ x,S.o x+fO prs S.l x=o0 x
 co:∀ y,S.p y+fQ prs S.l y=p0 y
theorem pV:∀ (l:List Int) (a:Int),(l.foldl min a<=a)/\(∀ x∈l,l.foldl min a<=x)/\(l.foldl min a=a\/l.foldl min a∈l)
 |[],a=>⟨gi _,fun _ h=>absurd h cu,.inl rfl⟩
 |x :: r,a=>by
  obtain ⟨h1,h2,h3⟩:=pV r (min a x);rw [jd];exists ∅,fun y hy=>?_,?_
  ·rcases bo.mp hy with e | e
   ·omega
   ·exact h2 y e
  ·rcases h3 with e | e
   ·by_cases c:a<=x
    ·left;omega
    ·right;rw [e];exact bo.mpr (.inl ∅)
   ·exact .inr (ba _ e)
theorem Fl.step {prs:List (α×α)}{ks qs:List α}{o0 p0:α->Int}{S:eW α}(F:Fl prs ks qs o0 p0 S) (nd:prs.Nodup) {y:α}{r:List (Pl α)}(p:kU prs S ks ((false,y) :: r)) (hy:0 < S.p y) :
  ∃ w,(((false,y) :: r).map (·.2)).getLast?=some w/\w∈ks/\1<=jU S (((false,y) :: r).map (·.2)) y w/\Fl prs ks qs o0 p0 (kN S (((false,y) :: r).map (·.2)) y w (jU S (((false,y) :: r).map (·.2)) y w)):=by
 obtain ⟨z,r',w,e,e1,e2,e3,hr,hc⟩:=p.sums nd
 cases e
 obtain ⟨pt,pb⟩:=(p.prs _ _ rfl).1 rfl;have bn:=uX (p.alt _ _ rfl) p.nodup;generalize ((false,y) :: r).map (·.2)=as at *;obtain ⟨m1,m2,m3⟩:=pV (S.p y :: (bS as).map S.l) (S.o w);have a1:1<=jU S as y w:=by
  unfold jU;rcases m3 with q | q
  ·rw [q];omega
  ·rcases bo.mp q with q | q
   ·rw [q];omega
   ·obtain ⟨e,he,eq⟩:=am.mp q;have:=(pb e he).2;rw [<- eq];omega
 exists w,e1,e2,a1,?_;have mo:jU S as y w<=S.o w:=m1;have mp:jU S as y w<=S.p y:=m2 _ bj;have mb:∀ e∈bS as,jU S as y w<=S.l e:=fun e he=>m2 _ (ba _ (am.mpr ⟨e,he,rfl⟩))
 generalize jU S as y w=a at *;exists fun x hx=>?_,fun v hv=>?_,fun e he=>?_,fun x=>?_,fun v=>?_
 ·show 0<=if x=w then S.o x - a else S.o x
  have:=F.o x hx
  split
  ·rename_i q;rw [q];omega
  ·exact this
 ·show 0<=if v=y then S.p v - a else S.p v
  have:=F.p v hv
  split
  ·rename_i q;rw [q];omega
  ·exact this
 ·show 0<=S.l e+a * dl false as e;have l0:=F.l e he;rw [uY];have c1:=List.nodup_iff_count.mp bn e
  by_cases q:e∈bS as
  ·have:=mb e q;have h0:(-1:Int)<=((bY as).count e:Int) - ((bS as).count e:Int):=∅
   have:=ii h0 (show 0<=a by omega);omega
  ·rw [List.count_eq_zero_of_not_mem q];have:0<=a * (((bY as).count e:Int) - ((0:Nat):Int)):=dt ∅ ∅;omega
 ·show (if x=w then S.o x - a else S.o x)+fO prs (fun e=>S.l e+a * dl false as e) x=o0 x;have h1:=hr x;have h2:fO prs (dl false as) x=(if x=w then 1 else 0):=by
   have:fO prs (dl false as) x=(if x=w then 1 else 0) - (if ((false,y):Pl α).1=true/\x=y then 1 else 0):=h1;rw [this];simp
  rw [uW];have h3:fO prs (fun e=>a * dl false as e) x=a * fO prs (dl false as) x:=oP a _ _;rw [h3,h2];have:=F.ro x
  split
  ·omega
  ·omega
 ·show (if v=y then S.p v - a else S.p v)+fQ prs (fun e=>S.l e+a * dl false as e) v=p0 v;have h1:=hc v;have h2:fQ prs (dl false as) v=(if v=y then 1 else 0):=by
   have:fQ prs (dl false as) v=(if ((false,y):Pl α).1=false/\v=y then 1 else 0):=h1;rw [this];simp
  rw [tP];have h3:fQ prs (fun e=>a * dl false as e) v=a * fQ prs (dl false as) v:=oP a _ _;rw [h3,h2];have:=F.co v
  split
  ·omega
  ·omega
def mN (ks:List α) (S:eW α):Int:=(ks.map S.o).sum
def tT (ah:Ah α) (N:Nat) (S:eW α) (z:Pl α):eW α :=
 kN S ((lG ah N z).map (·.2)) z.2 ((((lG ah N z).map (·.2)).getLast?).getD z.2) (jU S ((lG ah N z).map (·.2)) z.2 ((((lG ah N z).map (·.2)).getLast?).getD z.2))
def fG (prs:List (α×α)) (ks:List α) (N:Nat):Nat->eW α->eW α×Ah α
 |0,S=>(S,(cZ prs S N 0 (nY ks S)).1)
 |f+1,S=>match cZ prs S N 0 (nY ks S) with
  |(ah,none)=>(S,ah)
  |(ah,some z)=>fG prs ks N f (tT ah N S z)
theorem gP {β: Type}(q:β->Bool) (f:β->Int):∀ l:List β,((l.filter q).map f).sum=(l.map fun x=>if q x=true then f x else 0).sum
 |[]=>rfl
 |x :: r=>by
  rw [yn,au,di, <- gP q f r]
  by_cases c:q x=true
  ·rw [bh c,bh c,au,di]
  ·rw [ap c,ap c,jw]
theorem aY {β: Type}{f g:β->Int}:∀ {l:List β},(∀ x∈l,f x=g x)->(l.map f).sum=(l.map g).sum
 |[],_=>rfl
 |x :: r,h=>by rw [au,au,di,di,h x bj,aY fun y hy=>h y (ba _ hy)]
theorem tF {β: Type} [DecidableEq β] {p:β}{c:Int}{l:List β}(nd:l.Nodup):(l.map fun x=>if p=x then c else 0).sum=if p∈l then c else 0:=by
 induction l with
 |nil=>simp
 |cons x r ih =>
  obtain ⟨n1,n2⟩:=fh.mp nd;rw [au,di,ih n2]
  by_cases e:p=x
  ·rw [bh e,ap (by rw [e];exact n1),bh (by rw [e];exact bj),sv]
  ·rw [ap e,jw]
   by_cases m:p∈r
   ·rw [bh m,bh (ba _ m)]
   ·rw [ap m,ap fun z=>by rcases bo.mp z with q | q;exact e q;exact m q]
theorem oS {L:List α}(nd:L.Nodup) (l:α×α->Int):∀ prs:List (α×α),(L.map (fO prs l)).sum=(prs.map fun e=>if e.1∈L then l e else 0).sum
 |[]=>eK fun _ _=>rfl
 |e :: r=>by
  have h:∀ x,fO (e :: r) l x=(if e.1=x then l e else 0)+fO r l x:=fun x=>by
   unfold fO;rw [yn]
   by_cases c:e.1=x
   ·rw [bh (ar c),bh c,au,di]
   ·rw [ap (by simpa using c),ap c,jw]
  rw [au,di, <- oS nd l r,aY fun x _=>h x,eB,tF nd]
theorem uZ {L:List α}(nd:L.Nodup) (l:α×α->Int):∀ prs:List (α×α),(L.map (fQ prs l)).sum=(prs.map fun e=>if e.2∈L then l e else 0).sum
 |[]=>eK fun _ _=>rfl
 |e :: r=>by
  have h:∀ x,fQ (e :: r) l x=(if e.2=x then l e else 0)+fQ r l x:=fun x=>by
   unfold fQ;rw [yn]
   by_cases c:e.2=x
   ·rw [bh (ar c),bh c,au,di]
   ·rw [ap (by simpa using c),ap c,jw]
  rw [au,di, <- uZ nd l r,aY fun x _=>h x,eB,tF nd]
structure zF (prs:List (α×α)) (ks:List α) (S:eW α) (ah:Ah α):Prop where
 cl:∀ c∈aV ah,∀ z∈dZ prs S c,z∈aV ah
 rm:∀ z∈aV ah,kR S z=false
 up:∀ x∈ks,0 < S.o x->(true,x)∈aV ah
theorem sJ {prs:List (α×α)}{S:eW α}{ks qs:List α}(hp:∀ e∈prs,e.1∈ks/\e.2∈qs) (nk:ks.Nodup) :
  ((cZ prs S ((fM ks qs).length+1) 0 (nY ks S)).2=none->zF prs ks S (cZ prs S ((fM ks qs).length+1) 0 (nY ks S)).1) /\
  ∀ z,(cZ prs S ((fM ks qs).length+1) 0 (nY ks S)).2=some z->∃ y r,z=(false,y)/\0 < S.p y/\kU prs S ks ((false,y) :: r)/\Tr (cZ prs S ((fM ks qs).length+1) 0 (nY ks S)).1 ((false,y) :: r)/\lG (cZ prs S ((fM ks qs).length+1) 0 (nY ks S)).1 ((fM ks qs).length+1) z=(false,y) :: r:=by
 obtain ⟨w0,k0⟩:=xI (prs:=prs) (S:=S) nk;obtain ⟨h1,⟨m,h2⟩,h3,h4⟩:=aJ5 hp ((fM ks qs).length+1) 0 (nY ks S) w0 ∅ (fun i c hi=>absurd hi (Nat.not_lt_zero i)) fun z hz=>by
  rw [k0] at hz;obtain ⟨x,_,rfl⟩:=am.mp hz;rfl
 exists fun e=>⟨(h4 e).1,(h4 e).2,fun x hx ho=>?_⟩,fun z e=>?_
 ·rw [h2];unfold aV;rw [bp];refine fu _ ?_;have:(true,x)∈aV (nY ks S):=by rw [k0];exact am.mpr ⟨x,br.mpr ⟨hx,ar ho⟩,rfl⟩
  exact this
 ·obtain ⟨j1,j2⟩:=h3 z e;obtain ⟨b,y⟩:=z
  cases b
  ·obtain ⟨r,p,t⟩:=h1.path _ j1;exists y,r,rfl,cf j2,p,t,t.back _ ?_;have l1:=iM p.nodup (m:=fM ks qs) fun c hc=>h1.sub hp c (t.keys c hc)
   rw [dq] at l1;omega
  ·cases j2
theorem mD {ks:List α}(nk:ks.Nodup) {S:eW α}{as:List α}{y w:α}{a:Int}(hw:w∈ks):mN ks (kN S as y w a)=mN ks S - a:=by
 unfold mN;have e:(ks.map (kN S as y w a).o).sum=(ks.map fun x=>S.o x+(if w=x then -a else 0)).sum:=aY fun x _=>by
  show (if x=w then S.o x - a else S.o x)=_
  by_cases c:x=w
  ·rw [bh c,bh c.symm];omega
  ·rw [ap c,ap fun z=>c z.symm,sv]
 rw [e,eB,tF nk,bh hw];omega
theorem mI {ks:List α}{S:eW α}(h:∀ x∈ks,0<=S.o x):0<=mN ks S:=by
 unfold mN
 induction ks with
 |nil=>exact gi _
 |cons x r ih =>
  rw [au,di];have:=h x bj;have:=ih fun y hy=>h y (ba _ hy)
  omega
theorem wZ {prs:List (α×α)}{ks qs:List α}{o0 p0:α->Int}(hp:∀ e∈prs,e.1∈ks/\e.2∈qs) (nk:ks.Nodup) (nd:prs.Nodup):∀ (f:Nat) (S:eW α),Fl prs ks qs o0 p0 S->mN ks S<=(f:Int) ->
  Fl prs ks qs o0 p0 (fG prs ks ((fM ks qs).length+1) f S).1/\zF prs ks (fG prs ks ((fM ks qs).length+1) f S).1 (fG prs ks ((fM ks qs).length+1) f S).2
 |0,S,F,h=>by
  have nn:=mI F.o;obtain ⟨h1,h2⟩:=sJ hp nk (S:=S) (qs:=qs)
  cases q:(cZ prs S ((fM ks qs).length+1) 0 (nY ks S)).2 with
  |none=>exact ⟨F,h1 q⟩
  |some z =>
   exfalso;obtain ⟨y,r,rfl,hy,p,_,_⟩:=h2 z q;obtain ⟨w,e1,e2,a1,F'⟩:=F.step nd p hy;have n2:=mI F'.o;rw [mD nk e2] at n2;omega
 |f+1,S,F,h=>by
  obtain ⟨h1,h2⟩:=sJ hp nk (S:=S) (qs:=qs);unfold fG
  cases q:cZ prs S ((fM ks qs).length+1) 0 (nY ks S) with
  |mk ah o =>
   rw [q] at h1 h2
   cases o with
   |none=>exact ⟨F,h1 rfl⟩
   |some z =>
    obtain ⟨y,r,rfl,hy,p,_,eb⟩:=h2 z rfl;obtain ⟨w,e1,e2,a1,F'⟩:=F.step nd p hy;have es:tT ah ((fM ks qs).length+1) S (false,y)=kN S (((false,y) :: r).map (·.2)) y w (jU S (((false,y) :: r).map (·.2)) y w):=by
     unfold tT;have eb:lG ah ((fM ks qs).length+1) (false,y)=(false,y) :: r:=eb;rw [eb,e1];rfl
    have:=wZ hp nk nd f (tT ah ((fM ks qs).length+1) S (false,y)) (by rw [es];exact F') (by rw [es,mD nk e2];omega);exact this
def inR (ah:Ah α) (x:α):Bool:=decide ((true,x)∈aV ah)
def inN (prs:List (α×α)) (ah:Ah α) (y:α):Bool:=prs.any fun e=>decide (e.2=y) && inR ah e.1
theorem bH6 {prs:List (α×α)}{ks qs:List α}{o0 p0:α->Int}{S:eW α}{ah:Ah α}(hp:∀ e∈prs,e.1∈ks/\e.2∈qs) (nk:ks.Nodup) (nq:qs.Nodup) (F:Fl prs ks qs o0 p0 S) (E:zF prs ks S ah) :
  ((ks.filter (inR ah)).map o0).sum=mN ks S+((qs.filter (inN prs ah)).map p0).sum:=by
 have a1:((ks.filter (inR ah)).map o0).sum=((ks.filter (inR ah)).map S.o).sum+((ks.filter (inR ah)).map (fO prs S.l)).sum:=by
  rw [<- eB];exact aY fun x _=>(F.ro x).symm
 have a2:((qs.filter (inN prs ah)).map p0).sum=((qs.filter (inN prs ah)).map S.p).sum+((qs.filter (inN prs ah)).map (fQ prs S.l)).sum:=by
  rw [<- eB];exact aY fun x _=>(F.co x).symm
 have nbk:∀ y,inN prs ah y=true->(false,y)∈aV ah:=fun y h=>by
  obtain ⟨e,he,h⟩:=fy.mp h;rw [ig] at h;have e2:e.2=y:=cf h.1;refine E.cl _ (cf h.2) _ ?_;refine am.mpr ⟨y,am.mpr ⟨e,br.mpr ⟨he,ar rfl⟩,e2⟩,rfl⟩
 have b1:((ks.filter (inR ah)).map S.o).sum=mN ks S:=by
  rw [gP];refine aY fun x hx=>?_
  by_cases c:inR ah x=true
  ·rw [bh c]
  ·rw [ap c];have:=F.o x hx
   by_cases d:0 < S.o x
   ·exact absurd (ar (E.up x hx d)) c
   ·omega
 have b2:((qs.filter (inN prs ah)).map S.p).sum=0:=eK fun y hy=>by
  obtain ⟨h1,h2⟩:=br.mp hy;have r:=E.rm _ (nbk y h2);have:=xg (show decide (0 < S.p y)=false from r);have:=F.p y h1;omega
 rw [a1,a2,b1,b2,oS (nk.sublist gq),uZ (nq.sublist gq),jw]
 congr 1
 refine aY fun e he=>?_
 obtain ⟨q1,q2⟩:=hp e he
 by_cases c:inR ah e.1=true
 ·have n:inN prs ah e.2=true:=fy.mpr ⟨e,he,by rw [ig];exact ⟨ar rfl,c⟩⟩;rw [bh (br.mpr ⟨q1,c⟩),bh (br.mpr ⟨q2,n⟩)]
 ·rw [ap fun z=>c (br.mp z).2]
  by_cases n:inN prs ah e.2=true
  ·rw [bh (br.mpr ⟨q2,n⟩)];have l0:=F.l e he
   by_cases d:0 < S.l e
   ·exfalso;refine c (ar (E.cl _ (nbk _ n) _ ?_));exact am.mpr ⟨e.1,br.mpr ⟨am.mpr ⟨e,br.mpr ⟨he,ar rfl⟩,rfl⟩,ar d⟩,rfl⟩
   ·omega
  ·rw [ap fun z=>n (br.mp z).2]
end
end Mine
namespace L2
open PySem PySem.Spec PyProof.Rows
abbrev NKey:=Key ⊕ List Key
inductive mQ:List Key->List Value->Prop where
 |nil:mQ [] []
 |cons {k:Key}{v:Value}{ks:List Key}{vs:List Value}:fU k v=true->mQ ks vs->mQ (k :: ks) (v :: vs)
theorem mQ.items {prog:Program}{w:World}:∀ {ks:List Key}{vs:List Value},mQ ks vs->ItemsAre (bL prog w) ks vs
 |_,_,.nil=> .nil
 |_,_,.cons h r=> .cons h (mQ.items r)
def sN (h:Heap) (ks:List Key) (a:Addr):Prop:=∃ o items n,h.get? a=some o/\o.cls= .type "tuple"/\o.data= .seq items n/\mQ ks items.toList
theorem sN.key {prog:Program}{w:World}{h:Heap}{ks:List Key}{a:Addr}(t:sN h ks a):IsTupleKey (bL prog w) h ks a:=by obtain ⟨o,i,n,a,b,c,d⟩:=t;exact ⟨o,i,n,a,b,c,d.items⟩
def qO (h:Heap):NKey->Value->Prop
 |.inl k,v=>fU k v=true
 |.inr ks,v=>∃ c,v= .ref c/\sN h ks c
inductive gU (h:Heap):List NKey->List Value->Prop where
 |nil:gU h [] []
 |cons {k:NKey}{v:Value}{ks:List NKey}{vs:List Value}:qO h k v->gU h ks vs->gU h (k :: ks) (v :: vs)
def jG (h:Heap) (ks:List NKey) (a:Addr):Prop:=∃ o items n,h.get? a=some o/\o.cls= .type "tuple"/\o.data= .seq items n/\gU h ks items.toList
theorem aM1 {k j:Key}{v:Value}(a:fU k v=true) (b:fU j v=true):k=j:=by
 rcases bG a with ⟨i,t,rfl,rfl⟩ | ⟨x,t,rfl,rfl⟩
 ·rcases bG b with ⟨i',t',rfl,e⟩ | ⟨x,t,rfl,e⟩
  ·cases e;rfl
  ·cases e
 ·rcases bG b with ⟨i',t',rfl,e⟩ | ⟨x,t,rfl,e⟩
  ·cases e
  ·cases e;rfl
theorem aY9 {x y:List Key}{vs:List Value}(p:mQ x vs) (q:mQ y vs):x=y:=by
 induction p generalizing y with
 |nil=>
  cases q
  rfl
 |cons a r ih=>
  cases q with
  |cons b t=>rw [aM1 a b,ih t]
theorem bI7 {h:Heap}{x y:List Key}{a:Addr}(p:sN h x a) (q:sN h y a):x=y:=by
 obtain ⟨o,i,n,a1,b1,c1,d1⟩:=p;obtain ⟨o2,i2,n2,a2,b2,c2,d2⟩:=q;rw [a1] at a2
 cases a2
 rw [c1] at c2
 cases c2
 exact aY9 d1 d2
theorem bI9 {h:Heap}:∀ {x y:NKey}{v:Value},qO h x v->qO h y v->x=y
 |.inl k,.inl j,v,a,b=>by rw [aM1 a b]
 |.inl k,.inr j,v,a,⟨c,e,_⟩=>by
  subst e;rcases bG (show fU k (.ref c)=true from a) with ⟨i,t,_,z⟩ | ⟨x,t,_,z⟩ <;> cases z
 |.inr k,.inl j,v,⟨c,e,_⟩,b=>by
  subst e;rcases bG (show fU j (.ref c)=true from b) with ⟨i,t,_,z⟩ | ⟨x,t,_,z⟩ <;> cases z
 |.inr k,.inr j,v,⟨c,e,p⟩,⟨c2,e2,q⟩=>by
  subst e
  cases e2
  rw [bI7 p q]
theorem bA9 {h:Heap}{x y:List NKey}{vs:List Value}(p:gU h x vs) (q:gU h y vs):x=y:=by
 induction p generalizing y with
 |nil=>
  cases q
  rfl
 |cons a r ih=>
  cases q with
  |cons b t=>rw [bI9 a b,ih t]
theorem zR {h:Heap}{x y:List NKey}{a:Addr}(p:jG h x a) (q:jG h y a):x=y:=by
 obtain ⟨o,i,n,a1,b1,c1,d1⟩:=p;obtain ⟨o2,i2,n2,a2,b2,c2,d2⟩:=q;rw [a1] at a2
 cases a2
 rw [c1] at c2
 cases c2
 exact bA9 d1 d2
theorem aA3 {h:Heap}{a d:Addr}{o q:Obj}{items:Array Value}{n ep:Nat}{es:Array DictEntry}(ho:h.get? a=some o) (c:o.data= .seq items n) (hd:h.get? d=some q) (hq:q.data= .dict es ep):a≠d:=fun e=>by
 rw [e,hd] at ho
 cases ho
 rw [hq] at c
 cases c
theorem xE {h h':Heap}{d:Addr}{q:Obj}{es:Array DictEntry}{ep:Nat}(hd:h.get? d=some q) (hq:q.data= .dict es ep) (s:Heap.SameBut d h h') {ks:List NKey}{vs:List Value}(p:gU h ks vs):gU h' ks vs:=by
 induction p with
 |nil=>exact .nil
 |@cons k v ks vs a r ih=>
  cases k with
  |inl k=>exact .cons a ih
  |inr k=>
   obtain ⟨c,e,t⟩:=a
   refine .cons ⟨c,e,?_⟩ ih;obtain ⟨o,i,n,a1,b1,c1,d1⟩:=t;exact ⟨o,i,n,by rw [s.2 c (aA3 a1 c1 hd hq)];exact a1,b1,c1,d1⟩
section
variable {prog:Program}{w:World}
def eP (prog:Program) (w:World):NKey->Int
 |.inl k=>(bL prog w).hash k
 |.inr ks=>tupleKeyHash (bL prog w) ks
def fL:NKey->Nat
 |.inl _=>1
 |.inr ks=>ks.length+1
def tQ (prog:Program) (w:World) (ks:List NKey):Int:=reduceHash (Builtin.Tuple.tupleHashOf (ks.map (eP prog w)))
def mJ (ks:List NKey):Nat:=(ks.map fL).sum+1
variable {A:Around}{E:Value->Shared->Prop}{s:Shared}
theorem bE8 {k:NKey}{v:Value}{Q:Int->Shared->Prop}(hu:A.units < cLine) (h:qO s.heap k v) (q:Q (eP prog w k) { s with toks:=s.toks+fL k }):wpAny (model prog w) A (pyHash v) Q E s:=by
 cases k with
 |inl k=>exact (bL prog w).pyHash (k:=k) h q
 |inr ks =>
  obtain ⟨c,rfl,t⟩:=h;exact wpAny_pyHash_tuple hu t.key q
theorem yP {Q:Array Int->Shared->Prop}(hu:A.units < cLine):∀ {ks:List NKey}{vs:List Value}(hs:Array Int) (s:Shared),gU s.heap ks vs->Q (hs++(ks.map (eP prog w)).toArray) { s with toks:=s.toks+(ks.map fL).sum } ->
  wpAny (model prog w) A (forIn vs hs fun x (r:Array Int)=>do
   let i <- pyHash x
   pure (ForInStep.yield (r.push i))) Q E s
 |_,_,hs,s,.nil,q=>by
  rw [List.forIn_nil];exact aj (by simpa using q)
 |k :: ks,v :: vs,hs,s,.cons a r,q=>by
  rw [List.forIn_cons];simp only [bind_assoc,pure_bind];refine aa (bE8 hu a ?_);refine yP hu (hs.push (eP prog w k)) { s with toks:=s.toks+fL k } r ?_;have e1:hs.push (eP prog w k)++(ks.map (eP prog w)).toArray=hs++((k :: ks).map (eP prog w)).toArray:=by simp
  have e2:s.toks+fL k+(ks.map fL).sum=s.toks+((k :: ks).map fL).sum:=by rw [au,di];omega
  rw [e1];show Q _ { s with toks:=s.toks+fL k+(ks.map fL).sum };rw [e2];exact q
theorem aR4 {ks:List NKey}{a:Addr}{Q:Int->Shared->Prop}(hu:A.units+3 < cLine) (h:jG s.heap ks a) (q:Q (tQ prog w ks) { s with toks:=s.toks+mJ ks }):wpAny (model prog w) A (pyHash (.ref a)) Q E s:=by
 obtain ⟨o,items,n,h1,h2,h3,h4⟩:=h;have hT:s.TypeIs (.ref a) "tuple":=⟨o,h1,h2⟩
 show wpAny _ _ (pyHashByItsType (.ref a)) _ _ _;unfold pyHashByItsType;refine aa (wpAny_cRoomFor ∅ ?_);refine aa (kh hT F.slot_tuple_hash.lookup ?_);rw [ap (by decide)];refine aa (kh hT F.slot_tuple_hash.lookup ?_);rw [ap (by decide)];refine aa (wpAny_callSpecialIfBoundUnlessNone?_slot hT F.slot_tuple_hash (eh F.slot_tuple_hash hT F.entry_tuple_hash ?_ (F.args_tuple_hash_1 _)));unfold Builtin.«tuple.__hash__» slotArgs;simp only [List.isEmpty_nil,Bool.not_true,Bool.false_eq_true,if_false,bind_assoc,List.length_nil,bne_self_eq_false];refine aa (aj ?_);refine aa (wpAny_tupleItemsOf h1 h3 ?_);refine aa ?_;rw [<- xh];refine yP (by show A.units+1 < cLine;omega) #[] s h4 ?_;unfold retInt;refine aa (wpAny_mkInt (aj ⟨_,rfl,?_⟩));have e:(#[]++(ks.map (eP prog w)).toArray:Array Int).toList=ks.map (eP prog w):=by simp
 rw [e];show wpAny _ _ (if (decide (-(2:Int) ^ 63<=Builtin.Tuple.tupleHashOf (ks.map (eP prog w))) && decide (Builtin.Tuple.tupleHashOf (ks.map (eP prog w)) < 2 ^ 63))=true then _ else _) Q E _;unfold tQ reduceHash at q;have e3:s.toks+mJ ks=s.toks+(ks.map fL).sum+1:=by unfold mJ;omega
 rw [e3] at q
 by_cases hr:(decide (-(2:Int) ^ 63<=Builtin.Tuple.tupleHashOf (ks.map (eP prog w))) && decide (Builtin.Tuple.tupleHashOf (ks.map (eP prog w)) < 2 ^ 63))=true
 ·rw [bh hr] at q ⊢;exact aj q
 ·rw [ap hr] at q ⊢;exact aa (mj (aj q))
theorem bT2 {j k:NKey}{u v:Value}(hu:A.units+1 < cLine) (a:qO s.heap j u) (b:qO s.heap k v):SeqAt.EqAt A s u v (decide (j=k)):=by
 cases j with
 |inl j =>
  cases k with
  |inl k =>
   have e:decide ((Sum.inl j:NKey)=Sum.inl k)=decide (j=k):=by simp
   rw [e];intro prog w E Q q;exact (bL prog w).eqBool (a:=j) (b:=k) a b q
  |inr ks =>
   have e:decide ((Sum.inl j:NKey)=Sum.inr ks)=false:=by simp
   rw [e];obtain ⟨c,rfl,o,items,n,h1,h2,h3,_⟩:=b;have ht:s.heap.IsTuple c items:=⟨o,h1,h2,n,h3⟩
   rcases bG (show fU j u=true from a) with ⟨i,t,_,rfl⟩ | ⟨x,t,_,rfl⟩
   ·exact SeqAt.EqAt.int_tuple i t ht ∅
   ·exact SeqAt.EqAt.str_tuple x t ht ∅
 |inr js =>
  obtain ⟨c,rfl,t⟩:=a
  cases k with
  |inl k =>
   have e:decide ((Sum.inr js:NKey)=Sum.inl k)=false:=by simp
   rw [e];obtain ⟨o,items,n,h1,h2,h3,_⟩:=t;have ht:s.heap.IsTuple c items:=⟨o,h1,h2,n,h3⟩
   rcases bG (show fU k v=true from b) with ⟨i,t,_,rfl⟩ | ⟨x,t,_,rfl⟩
   ·exact SeqAt.EqAt.tuple_int i t ht ∅
   ·exact SeqAt.EqAt.tuple_str x t ht ∅
  |inr ks =>
   obtain ⟨c2,rfl,t2⟩:=b;have e:decide ((Sum.inr js:NKey)=Sum.inr ks)=decide (js=ks):=by simp
   rw [e];intro prog w E Q q;exact wpAny_eqBool_tuple (knd:=bL prog w) ∅ t.key t2.key q
theorem gU.at {h:Heap}{ks:List NKey}{vs:List Value}(p:gU h ks vs) {i:Nat}(hi:i < vs.length):∃ hk:i < ks.length,qO h ks[i] vs[i]:=by
 induction p generalizing i with
 |nil=>exact absurd hi (Nat.not_lt_zero i)
 |cons a r ih=>
  cases i with
  |zero=>exact ⟨Nat.succ_pos _,a⟩
  |succ i=>
   obtain ⟨hk,q⟩:=ih (i:=i) (by simpa using hi);exact ⟨by simpa using hk,by simpa using q⟩
theorem gU.len {h:Heap}{ks:List NKey}{vs:List Value}(p:gU h ks vs):ks.length=vs.length:=by
 induction p with
 |nil=>rfl
 |cons _ r ih=>rw [dq,dq,ih]
theorem bQ8 {xs ys:List NKey}:((List.range (min xs.length ys.length)).all (fun i=>decide (xs.getD i (.inr [])=ys.getD i (.inr []))) && xs.length == ys.length)=decide (xs=ys):=by
 rw [jn,ig,ug,xy,decide_eq_true_eq]
 constructor
 ·rintro ⟨h,l⟩;refine List.ext_getElem l fun i h1 h2=>?_
  have:=cf (h i (by simp;omega))
  simpa [List.getD,h1,h2] using this
 ·rintro rfl;exact ⟨fun i _=>ar rfl,rfl⟩
theorem bH7 {x y:List NKey}{a b:Addr}{Q:Bool->Shared->Prop}(hu:A.units+3 < cLine) (p:jG s.heap x a) (q:jG s.heap y b) (h:Q (decide (x=y)) s):wpAny (model prog w) A (eqBool (.ref a) (.ref b)) Q E s:=by
 by_cases e:a=b
 ·subst e;have:=zR p q;subst this;rw [ar rfl] at h;exact SeqAt.EqAt.same (.ref a) prog w E Q h
 ·obtain ⟨o,items,n,h1,h2,h3,h4⟩:=p;obtain ⟨o2,items2,n2,k1,k2,k3,k4⟩:=q;have l1:x.length=items.size:=by rw [h4.len,jc]
  have l2:y.length=items2.size:=by rw [k4.len,jc]
  have r:=SeqAt.RcAt.tuples (A:=A) (s:=s) (l:=a) (b:=b) (items:=items) (items2:=items2) (e:=fun i=>decide (x.getD i (.inr [])=y.getD i (.inr []))) ⟨o,h1,h2,n,h3⟩ ⟨o2,k1,k2,n2,k3⟩ ∅ fun j q1 q2=>?_
  ·rw [<- l1, <- l2,bQ8] at r;exact SeqAt.EqAt.of_refs e r prog w E Q h
  ·obtain ⟨g1,s1⟩:=h4.at (i:=j) (by simpa using q1);obtain ⟨g2,s2⟩:=k4.at (i:=j) (by simpa using q2);have e1:x.getD j (.inr [])=x[j]:=by simp [List.getD,g1]
   have e2:y.getD j (.inr [])=y[j]:=by simp [List.getD,g2]
   rw [e1,e2];simp only [Array.getElem_toList] at s1 s2;exact bT2 (by show A.units+1+1 < cLine;omega) s1 s2
theorem aN4 {d:Nat}{ks:List Key}{a:Addr}{Q:Bool->Shared->Prop}(hk:sN s.heap ks a) (h:Q true s):wpAny (model prog w) A (eqIsQuiet (d+1) (.ref a)) Q E s:=by
 have hT:=(hk.key (prog:=prog) (w:=w)).typeIs;obtain ⟨o,items,n,ho,_,hd,hi⟩:=hk;unfold eqIsQuiet;refine aa (kh hT F.slot_tuple_eq.lookup ?_);show wpAny _ _ (isInstance (.ref a) (.type "tuple") >>= _) _ _ s;refine aa (mf hT aAi ?_);simp only [Bool.not_true,Bool.false_eq_true,if_false];refine aa (ia ho hd ?_);refine aa ?_;show wpAny _ _ (forIn items _ _) _ _ s;rw [<- xh];refine ye _ (fun rest r s'=>r.1=none/\s'=s/\∀ v∈rest,carriedByValue v=true) _ ?_ ?_ _ _ ⟨rfl,rfl,(hi.items (prog:=prog) (w:=w)).byValue⟩
 ·rintro v rest r s' ⟨hr,rfl,hall⟩;rw [eqIsQuiet_byValue _ (hall v bj)];refine aa (aj ?_);simp only [Bool.not_true,Bool.false_eq_true,if_false];exact aj ⟨rfl,rfl,fun u hu'=>hall u (ba _ hu')⟩
 ·rintro ⟨r1,r2⟩ s' ⟨hr,rfl,_⟩;simp only at hr;subst hr;exact aj h
theorem aS6 {d:Nat}{k:NKey}{v:Value}{Q:Bool->Shared->Prop}(hk:qO s.heap k v) (h:Q true s):wpAny (model prog w) A (eqIsQuiet (d+1) v) Q E s:=by
 cases k with
 |inl k =>
  rw [eqIsQuiet_byValue _ ((bL prog w).byValue k v hk)];exact aj h
 |inr ks =>
  obtain ⟨c,rfl,t⟩:=hk;exact aN4 t h
theorem aD6 {ks:List NKey}{a:Addr}{Q:Bool->Shared->Prop}(hk:jG s.heap ks a) (h:Q true s):wpAny (model prog w) A (eqIsQuiet 8 (.ref a)) Q E s:=by
 obtain ⟨o,items,n,ho,hc,hd,hi⟩:=hk;have hT:s.TypeIs (.ref a) "tuple":=⟨o,ho,hc⟩
 unfold eqIsQuiet;refine aa (kh hT F.slot_tuple_eq.lookup ?_);show wpAny _ _ (isInstance (.ref a) (.type "tuple") >>= _) _ _ s;refine aa (mf hT aAi ?_);simp only [Bool.not_true,Bool.false_eq_true,if_false];refine aa (ia ho hd ?_);refine aa ?_;show wpAny _ _ (forIn items _ _) _ _ s;rw [<- xh];refine ye _ (fun rest r s'=>r.1=none/\s'=s/\∃ ks,gU s.heap ks rest) _ ?_ ?_ _ _ ⟨rfl,rfl,ks,hi⟩
 ·rintro v rest r s' ⟨hr,rfl,ks',hall⟩
  cases hall with
  |cons a1 a2 =>
   refine aa (aS6 a1 ?_);simp only [Bool.not_true,Bool.false_eq_true,if_false];exact aj ⟨rfl,rfl,_,a2⟩
 ·rintro ⟨r1,r2⟩ s' ⟨hr,rfl,_⟩;simp only at hr;subst hr;exact aj h
end
theorem jG.keeps {h h':Heap}{ks:List NKey}{a d:Addr}{q:Obj}{es:Array DictEntry}{ep:Nat}(t:jG h ks a) (hd:h.get? d=some q) (hq:q.data= .dict es ep) (s:Heap.SameBut d h h'):jG h' ks a:=by
 obtain ⟨o,items,n,ho,hc,hdd,hi⟩:=t;exact ⟨o,items,n,by rw [s.2 a (aA3 ho hdd hd hq)];exact ho,hc,hdd,xE hd hq s hi⟩
def jW (prog:Program) (w:World):HeapKind prog w (List NKey) where
 is:=jG
 hash:=tQ prog w
 draws:=mJ
 room:=fun A=>A.units+3 < cLine
 inj:=fun hx hy=>zR hx hy
 keeps:=fun x ho hd hs=>x.keeps ho hd hs
 pyHash:=fun hu hk h=>aR4 hu hk h
 eqBool:=fun hu hx hy h=>bH7 hu hx hy h
 quiet:=fun hk h=>aD6 hk h
theorem aT8 {X:Cx}{pins:List (Addr×Obj)}{σ: St}{H:Hp}{s:Shared}{a:Addr}{kvs:List (Key×V)}{k:Key}{x:V}{u r:Value}{A:Around}{E:Value->Shared->Prop}{Q:VK}(I:aQ X pins σ H s) (e:H a=some (.dK kvs)) (ry:aX (kV k) u) (rx:aX x r) (hz:kvs.length < sizeLine)
  (h1:∀ v,bH kvs k=some v->Q v H) (h2:bH kvs k=none->Q x (aJ H a (.dK (bF kvs k x)))):wpAny (model X.prog X.w) A (call (.builtin "dict.setdefault") [.ref a,u,r]) (EP X pins σ Q) E s:=by
 obtain ⟨z,hd,vs,rel,dd⟩:=aA5 I.hok e;refine aBo qm dd.typeIs we (wa _ _ _) (kt_meets_setdefault (bL X.prog X.w) a (nW ry) hd r) ⟨vs,dd,by rw [<- rel.length];exact z,fun v' hv=>?_,fun hn h' dd' hs=>?_⟩
 ·cases l:bH kvs k with
  |none =>
   have q:valueAt vs k=none:=hE.none_of (by rw [<- l];exact rel.val k);rw [q] at hv;cases hv
  |some v =>
   obtain ⟨w',hw,rw'⟩:=hE.some_of (v:=v) (o:=valueAt vs k) (by rw [<- l];exact rel.val k);rw [hw] at hv
   cases hv
   exact ⟨v,H,I.tok _,rw',h1 v l⟩
 ·cases l:bH kvs k with
  |some v =>
   obtain ⟨w',hw,rw'⟩:=hE.some_of (v:=v) (o:=valueAt vs k) (by rw [<- l];exact rel.val k);rw [hn] at hw;cases hw
  |none =>
   have hl:(bF kvs k x).length<=sizeLine:=by have:=dG kvs k x;omega
   have he:∃ q,h'.get? a=some q:=by obtain ⟨q,_,_,hq,_⟩:=dd';exact ⟨q,hq⟩
   exact ⟨x,_,iX I (by rw [e];exact gm) hs he (yL hl hd (rel.put k rx) dd'),rx,h2 l⟩
abbrev NE:=List NKey×Addr×V
abbrev KN:List NE->List (List NKey×Addr×Value)->Prop:=Paired fun p q=>p.1=q.1/\p.2.1=q.2.1/\aX p.2.2 q.2.2
def dN (P:Program) (w:World) (a:Addr) (xs:List NE):HO:= .ext fun h=>xs.length<=sizeLine/\(a == sysModules)=false/\(xs.map (·.1)).Nodup/\∃ ys,KN xs ys/\∃ o es ep,h.get? a=some o/\o.ExactDict/\o.data= .dict es ep/\es.toList=ys.map (entryOfKey (jW P w))
def aH5 (H:Hp):NKey->V->Prop
 |.inl k,v=>v=kV k
 |.inr ks,v=>∃ c,v= .ref c/\H c=some (.tup (ks.map kV))
def qY (H:Hp) (ks:List NKey) (b:Addr):Prop:=∃ vs,H b=some (.tup vs)/\Paired (aH5 H) ks vs
theorem aH5.ts {H H':Hp}(t:∀ b ys,H b=some (.tup ys)->H' b=some (.tup ys)):∀ {k:NKey}{v:V},aH5 H k v->aH5 H' k v
 |.inl _,_,h=>h
 |.inr _,_,⟨c,e,h⟩=>⟨c,e,t _ _ h⟩
theorem qY.ts {H H':Hp}(t:∀ b ys,H b=some (.tup ys)->H' b=some (.tup ys)) {ks:List NKey}{b:Addr}(h:qY H ks b):qY H' ks b:=by obtain ⟨vs,e,r⟩:=h;exact ⟨vs,t _ _ e,Paired.mapP r fun _ _ z=>z.ts t⟩
theorem aX9 {k:Key}{u:Value}(h:aX (kV k) u):fU k u=true:=by
 cases k with
 |inl i=>obtain ⟨t,rfl⟩:=(show ∃ t,u=Value.int i t from h);simp [fU,Value.isInt,Value.isStrOf]
 |inr x=>obtain ⟨t,rfl⟩:=(show ∃ t,u=Value.str x t from h);simp [fU,Value.isInt,Value.isStrOf]
theorem bN0:∀ {ks:List Key}{us:List Value},bB (ks.map kV) us->mQ ks us
 |[],_,.nil=> .nil
 |k :: ks,_,.cons r t=> .cons (aX9 r) (bN0 t)
section
variable {P:Program}{w:World}{H:Hp}{h:Heap}{a:Addr}
theorem bR1 {ks:List Key}(ok:lX P w H h) (e:H a=some (.tup (ks.map kV))):sN h ks a:=by
 obtain ⟨_,its,r,o,h1,h2,n,h3,_⟩:=(show bO P w H h a (.tup (ks.map kV)) from ok a _ e)
 exact ⟨o,its.toArray,n,h1,h2,h3,by simpa using bN0 r⟩
theorem bD0 (ok:lX P w H h) {ks:List NKey}{vs:List V}{us:List Value}(p:Paired (aH5 H) ks vs) (q:bB vs us):gU h ks us:=by
 induction p generalizing us with
 |nil=>
  cases q
  exact .nil
 |@cons k _ _ _ a r ih=>
  cases q with
  |cons b t=>
   refine .cons ?_ (ih t)
   cases k with
   |inl k=>exact (show fU k _=true from aX9 (by rw [<- (show _=kV k from a)];exact b))
   |inr ks=>
    obtain ⟨c,e,q⟩:=a
    exact ⟨c,by subst e;exact b,bR1 ok q⟩
theorem mB {ks:List NKey}(ok:lX P w H h) (e:qY H ks a):(jW P w).is h ks a:=by
 obtain ⟨vs,e,r⟩:=e;obtain ⟨_,its,rv,o,h1,h2,n,h3,_⟩:=(show bO P w H h a (.tup vs) from ok a _ e)
 exact ⟨o,its.toArray,n,h1,h2,h3,by simpa using bD0 ok r rv⟩
end
def yI (xs:List NE):List (List NKey×V):=xs.map fun x=>(x.1,x.2.2)
def DNr (P:Program) (w:World) (H:Hp) (d:Addr) (l:List (List NKey×V)):Prop:=∃ xs,Rd H d (dN P w d xs)/\yI xs=l/\∀ x∈xs,qY H x.1 x.2.1
def DN (P:Program) (w:World) (H:Hp) (d:Addr) (l:List (List NKey×V)):Prop:=∃ xs,H d=some (dN P w d xs)/\yI xs=l/\∀ x∈xs,qY H x.1 x.2.1
theorem DN.r {P:Program}{w:World}{H:Hp}{d:Addr}{l:List (List NKey×V)}(h:DN P w H d l):DNr P w H d l:=by obtain ⟨xs,a,b,c⟩:=h;exact ⟨xs,.inl a,b,c⟩
theorem DN.keep {P:Program}{w:World}{H H':Hp}{d:Addr}{l:List (List NKey×V)}(h:DN P w H d l) (t:∀ b ys,H b=some (.tup ys)->H' b=some (.tup ys)) (s:∀ o,H d=some o->H' d=some o):DN P w H' d l :=by
 obtain ⟨xs,a,b,c⟩:=h;exact ⟨xs,s _ a,b,fun x hx=>(c x hx).ts t⟩
theorem DN.ext {P:Program}{w:World}{H:Hp}{d:Addr}{l:List (List NKey×V)}(h:DN P w H d l):∃ φ,H d=some (.ext φ):=by obtain ⟨_,a,_,_⟩:=h;exact ⟨_,a⟩
theorem KN.val {xs:List NE}{ys:List (List NKey×Addr×Value)}(r:KN xs ys) (k:List NKey):hE (bH (yI xs) k) ((atKey ys k).map (·.2)):=by
 induction r with
 |nil=>exact gm
 |@cons p q ps qs h t ih =>
  obtain ⟨h1,_,h2⟩:=h
  by_cases e:p.1=k
  ·have e':q.1=k:=h1.symm.trans e;have b:atKey (q :: qs) k=some q.2:=by simp [atKey,List.find?_cons,e']
   rw [show yI (p :: ps)=(p.1,p.2.2) :: yI ps from rfl,bR e,b];exact h2
  ·have e':¬ q.1=k:=fun z=>e (h1.trans z)
   have b:atKey (q :: qs) k=atKey qs k:=by simp [atKey,List.find?_cons,e']
   rw [show yI (p :: ps)=(p.1,p.2.2) :: yI ps from rfl,aZ e,b];exact ih
def iC (xs:List NE) (k:List NKey) (b:Addr) (v:V):List NE :=
 if ((yI xs).any fun kv=>decide (kv.1=k))=true then xs.map (fun x=>if x.1=k then (x.1,x.2.1,v) else x) else xs++[(k,b,v)]
theorem vA (xs:List NE) (k:List NKey) (b:Addr) (v:V):yI (iC xs k b v)=bF (yI xs) k v:=by
 unfold iC bF
 split
 ·unfold yI;rw [cz,cz];refine ik fun x _=>?_
  show (fun y:NE=>(y.1,y.2.2)) (if x.1=k then (x.1,x.2.1,v) else x)=if x.1=k then (x.1,v) else (x.1,x.2.2)
  split <;> rfl
 ·unfold yI;rw [bp];rfl
theorem aB4 {xs:List NE}{k:List NKey}{b:Addr}{v:V}{x:NE}(h:x∈iC xs k b v):(x.1=k/\x.2.1=b)\/∃ y∈xs,x.1=y.1/\x.2.1=y.2.1:=by
 unfold iC at h
 split at h
 ·obtain ⟨y,hy,e⟩:=am.mp h;refine .inr ⟨y,hy,?_⟩
  split at e <;> (subst e;exact ⟨rfl,rfl⟩)
 ·rcases cj.mp h with h | h
  ·exact .inr ⟨x,h,rfl,rfl⟩
  ·rw [ck.mp h];exact .inl ⟨rfl,rfl⟩
theorem KN.put {xs:List NE}{ys:List (List NKey×Addr×Value)}(r:KN xs ys) (k:List NKey) {b:Addr}{y:V}{u:Value}(ry:aX y u):KN (iC xs k b y) (storedH ys k b u):=by
 have e:((yI xs).any fun kv=>decide (kv.1=k))=(atKey ys k).isSome:=by
  rw [gB,(r.val k).isSome_eq,ol]
 unfold iC storedH;rw [e]
 by_cases q:(atKey ys k).isSome=true
 ·rw [bh q,bh q];clear e q
  induction r with
  |nil=>exact .nil
  |@cons p q ps qs h t ih =>
   rw [au,au];refine .cons ?_ ih;obtain ⟨h1,h2,h3⟩:=h;unfold putAt
   by_cases e:p.1=k
   ·rw [bh e,bh (h1.symm.trans e)];exact ⟨h1,h2,ry⟩
   ·rw [ap e,ap (fun z=>e (h1.trans z))];exact ⟨h1,h2,h3⟩
 ·rw [ap q,ap q];exact aBz r ⟨rfl,rfl,ry⟩
theorem KN.keys {xs:List NE}{ys:List (List NKey×Addr×Value)}(r:KN xs ys):xs.map (·.1)=ys.map (·.1):=by
 induction r with
 |nil=>rfl
 |cons h _ ih=>rw [au,au,h.1,ih]
section
variable {P:Program}{w:World}{H:Hp}{h:Heap}{a:Addr}
theorem pI {xs:List NE}(ok:lX P w H h) (e:Rd H a (dN P w a xs)) (hk:∀ x∈xs,qY H x.1 x.2.1):xs.length<=sizeLine/\(a == sysModules)=false/\∃ ys,KN xs ys/\h.DictOfH (jW P w) a ys:=by
 obtain ⟨z,y,nd,ys,r,o,es,ep,h1,h2,h3,h4⟩:=(show bO P w H h a (dN P w a xs) from aN1 ok e).1;refine ⟨z,y,ys,r,o,es,ep,h1,h2,h3,h4,fun x hx=>?_,by rw [<- r.keys];exact nd⟩;have all:∀ {l:List NE}{m:List (List NKey×Addr×Value)},KN l m->(∀ x∈l,qY H x.1 x.2.1)->∀ x∈m,(jW P w).is h x.1 x.2.1:=by
  intro l m q
  induction q with
  |nil=>intro _ x hx;exact nomatch hx
  |@cons p q ps qs hq t ih =>
   intro hl x hx;rcases bo.mp hx with e | hx
   ·subst e;rw [<- hq.1, <- hq.2.1];exact mB ok (hl p bj)
   ·exact ih (fun x hx=>hl x (ba _ hx)) x hx
 exact all r hk x hx
theorem bM7 {xs:List NE}{ys:List (List NKey×Addr×Value)}{H':Hp}(z:xs.length<=sizeLine) (y:(a == sysModules)=false) (r:KN xs ys) (dd:h.DictOfH (jW P w) a ys):bO P w H' h a (dN P w a xs):=by
 obtain ⟨o,es,ep,h1,h2,h3,h4,_,h5⟩:=dd;exists ⟨z,y,by rw [r.keys];exact h5,ys,r,o,es,ep,h1,h2,h3,h4⟩,⟨o,h1⟩,fun g1 g2 g k=>?_;obtain ⟨z,y,nd,ys,r,o,es,ep,h1,h2,h3,h4⟩:=g;exact ⟨z,y,nd,ys,r,o,es,ep,k _ h1,h2,h3,h4⟩
theorem aV1 {P:Program}{w:World}{H:Hp}(h:Heap) (hb:sysModules < h.objs.size):bO P w H (h.push { cls:= .type "dict",data:= .dict #[] }) h.objs.size (dN P w h.objs.size []) :=
 bM7 (df _) (jq.mpr (Ne.symm (cw hb))) .nil ⟨_, #[],0,aq _ rfl,⟨rfl,rfl,rfl⟩,rfl,rfl,(fun x hx=>nomatch hx),jj⟩
end
def sQ (P:Program) (w:World) (H:Hp) (a:Addr) (y:V) (r:Option V):Prop:=fJ H a y r\/∃ l ks b,DNr P w H a l/\y= .ref b/\qY H ks b/\r=bH l ks
def aE2 (P:Program) (w:World) (H:Hp) (a:Addr) (y v:V) (Q:Hp->Prop):Prop:=(∃ H',kB H a y v H'/\Q H')\/∃ l ks b,DN P w H a l/\y= .ref b/\qY H ks b/\l.length < sizeLine/\∀ H',DN P w H' a (bF l ks v)->(∀ c,c≠a->H' c=H c)->Q H'
theorem rD (xs:List NE):(yI xs).length=xs.length:=ae _
section
variable {X:Cx}{pins:List (Addr×Obj)}{σ: St}{H:Hp}{s:Shared}{a:Addr}{y v:V}{u r:Value}{o:Option V}{A:Around}{E:Value->Shared->Prop}
theorem aT1 (I:aQ X pins σ H s) (g:sQ X.prog X.w H a y o):s.TypeIs (.ref a) "dict":=by
 rcases g with g | ⟨l,ks,b,⟨xs,e,_,hk⟩,_⟩
 ·exact qK I g
 ·obtain ⟨_,_,ys,_,dd⟩:=pI I.hok e hk;exact dd.typeIs
theorem vZ {Q:Value->Shared->Prop}(hu:A.units+8 < cLine) (I:aQ X pins σ H s) (g:sQ X.prog X.w H a y (some v)) (ry:aX y u) (h:∀ w' s',aQ X pins σ H s'->aX v w'->Q w' s') :
  wpAny (model X.prog X.w) A (getItem (.ref a) u) Q E s:=by
 rcases g with g | ⟨l,ks,b,⟨xs,e,el,hk⟩,ey,eb,l'⟩
 ·exact pM ∅ I g ry h
 ·subst ey el
  cases (show u=Value.ref b from ry)
  obtain ⟨z,hd,ys,rel,dd⟩:=pI I.hok e hk;obtain ⟨w',hw,rw'⟩:=hE.some_of (v:=v) (o:=(atKey ys ks).map (·.2)) (by rw [l'];exact rel.val ks);obtain ⟨p,hp,hp2⟩:=ju.mp hw;refine aBm (show A.units+1+3 < cLine by omega) (mB I.hok eb) dd hp ?_;rw [hp2];exact h w' _ (I.tok _) rw'
theorem cK0 {Q:Value->Shared->Prop}(hu:A.units+8 < cLine) (I:aQ X pins σ H s) (g:sQ X.prog X.w H a y o) (ry:aX y u) (h:∀ s',aQ X pins σ H s'->Q (.bool o.isSome) s') :
  wpAny (model X.prog X.w) A (compareOp .In u (.ref a)) Q E s:=by
 rcases g with g | ⟨l,ks,b,⟨xs,e,el,hk⟩,ey,eb,l'⟩
 ·exact cH3 ∅ I g ry h
 ·subst ey el
  cases (show u=Value.ref b from ry)
  obtain ⟨z,hd,ys,rel,dd⟩:=pI I.hok e hk;refine wpAny_in_heap (show A.units+1+3 < cLine by omega) (mB I.hok eb) hd dd ?_;have q:=(rel.val ks).isSome_eq;rw [ol] at q;rw [<- q, <- l'];exact h _ (I.tok _)
theorem bL1 {Q:Value->Shared->Prop}(hu:A.units+8 < cLine) (I:aQ X pins σ H s) (g:sQ X.prog X.w H a y o) (ry:aX y u) (h:∀ s',aQ X pins σ H s'->Q (.bool (!o.isSome)) s') :
  wpAny (model X.prog X.w) A (compareOp .NotIn u (.ref a)) Q E s:=by
 rcases g with g | ⟨l,ks,b,⟨xs,e,el,hk⟩,ey,eb,l'⟩
 ·exact bK4 ∅ I g ry h
 ·subst ey el
  cases (show u=Value.ref b from ry)
  obtain ⟨z,hd,ys,rel,dd⟩:=pI I.hok e hk;refine wpAny_notIn_heap (show A.units+1+3 < cLine by omega) (mB I.hok eb) hd dd ?_;have q:=(rel.val ks).isSome_eq;rw [ol] at q;rw [<- q, <- l'];exact h _ (I.tok _)
theorem bD6 {h':Heap}{t':Nat}{xs:List NE}{ys:List (List NKey×Addr×Value)}{ks:List NKey}{b:Addr}(I:aQ X pins σ H s) (e:H a=some (dN X.prog X.w a xs)) (hk:∀ x∈xs,qY H x.1 x.2.1) (eb:qY H ks b) (rv:aX v r) (z:xs.length < sizeLine) (hd:(a == sysModules)=false) (rel:KN xs ys)
  (dd:h'.DictOfH (jW X.prog X.w) a (storedH ys ks b r)) (hs:Heap.SameBut a s.heap h'):∃ H',aQ X pins σ H' { s with heap:=h',toks:=t' }/\DN X.prog X.w H' a (bF (yI xs) ks v)/\∀ c,c≠a->H' c=H c:=by
 have hl:(iC xs ks b v).length<=sizeLine:=by
  have:=dG (yI xs) ks v;rw [<- vA xs ks b v,rD,rD] at this;omega
 have he:∃ q,h'.get? a=some q:=by obtain ⟨q,_,_,hq,_⟩:=dd;exact ⟨q,hq⟩
 have nt:∀ c ys,H c=some (.tup ys)->aJ H a (dN X.prog X.w a (iC xs ks b v)) c=some (.tup ys):=fun c ys ec=>by
  rw [aE (bN ec e (fun z=>nomatch z))];exact ec
 exists aJ H a (dN X.prog X.w a (iC xs ks b v)),iX I (by rw [e];exact gm) hs he (bM7 hl hd (rel.put ks rv) dd),⟨_,aB,vA xs ks b v,fun x hx=>?_⟩,fun c hc=>aE hc;rcases aB4 hx with ⟨e1,e2⟩ | ⟨y,hy,e1,e2⟩
 ·rw [e1,e2];exact eb.ts nt
 ·rw [e1,e2];exact (hk y hy).ts nt
theorem vX {W:Hp->Prop}{Q:Unit->Shared->Prop}(hu:A.units+8 < cLine) (I:aQ X pins σ H s) (g:aE2 X.prog X.w H a y v W) (ry:aX y u) (rv:aX v r) (h:∀ H' s',aQ X pins σ H' s'->W H'->Q () s') :
  wpAny (model X.prog X.w) A (setItem (.ref a) u r) Q E s:=by
 rcases g with ⟨H',g,q⟩ | ⟨l,ks,b,⟨xs,e,el,hk⟩,ey,eb,l',q⟩
 ·exact pL ∅ I g ry rv fun s' I'=>h _ _ I' q
 ·subst ey el
  cases (show u=Value.ref b from ry)
  obtain ⟨z,hd,ys,rel,dd⟩:=pI I.hok (.inl e) hk;rw [rD] at l';refine aBn (hsz:=by rw [<- gj rel];exact z) (show A.units+1+3 < cLine by omega) (mB I.hok eb) dd fun h' dd' hs=>?_
  obtain ⟨H',I',d',o'⟩:=bD6 I e hk eb rv l' hd rel dd' hs;exact h _ _ I' (q H' d' o')
theorem aQ5 {W:Hp->Prop}{Q:Unit->Shared->Prop}(hu:A.units+8 < cLine) (I:aQ X pins σ H s) (g:aE2 X.prog X.w H a y v W) (ry:aX y u) (rv:aX v r) (h:∀ H' s',aQ X pins σ H' s'->Heap.SameBut a s.heap s'.heap->W H'->Q () s') :
  wpAny (model X.prog X.w) A (dictSet a u r) Q E s:=by
 rcases g with ⟨H',g,q⟩ | ⟨l,ks,b,⟨xs,e,el,hk⟩,ey,eb,l',q⟩
 ·exact pX ∅ I g ry rv fun s' I' sb=>h _ _ I' sb q
 ·subst ey el
  cases (show u=Value.ref b from ry)
  obtain ⟨z,hd,ys,rel,dd⟩:=pI I.hok (.inl e) hk;rw [rD] at l';refine aBw (hsz:=by rw [<- gj rel];exact z) (show A.units+3 < cLine by omega) (mB I.hok eb) dd fun h' dd' hs=>?_
  obtain ⟨H',I',d',o'⟩:=bD6 I e hk eb rv l' hd rel dd' hs;exact h _ _ I' hs (q H' d' o')
end
def bO6 (P:Program) (w:World) (td ty:TE):TE:=fun σ H Q=>td σ H fun x H1=>ty σ H1 fun y H2=>∃ a v,x= .ref a/\sQ P w H2 a y (some v)/\Q v H2
def cH4 (P:Program) (w:World) (ty td:TE):TE:=fun σ H Q=>ty σ H fun y H1=>td σ H1 fun x H2=>∃ a o,x= .ref a/\sQ P w H2 a y o/\Q (.bl o.isSome) H2
def aM3 (P:Program) (w:World) (ty td:TE):TE:=fun σ H Q=>ty σ H fun y H1=>td σ H1 fun x H2=>∃ a o,x= .ref a/\sQ P w H2 a y o/\Q (.bl (!o.isSome)) H2
def bM9 (P:Program) (w:World) (td ty tv:TE):TS:=fun D σ H=>tv σ H fun v H1=>td σ H1 fun x H2=>ty σ H2 fun y H3=>∃ a,x= .ref a/\aE2 P w H3 a y v fun H4=>D.nx σ H4
def bP5 (P:Program) (w:World) (td ty tv:TE) (rd:V->V->Hp->VK->Prop):TS:=fun D σ H=>td σ H fun x H1=>ty σ H1 fun y H2=>∃ a v,x= .ref a/\sQ P w H2 a y (some v) /\
 tv σ H2 fun y2 H3=>rd v y2 H3 fun z H4=>aE2 P w H4 a y z fun H5=>D.nx σ H5
section
variable {X:Cx}{o i e value:Expr}{pos pos' tpos:Pos}{td ty tv:TE}{k:Nat}
theorem bJ1 (hr:bU k X.A) (ho:PE X o td) (hi:PE X i ty) (hs:aY2 i):PE X (.Subscript o i pos) (bO6 X.prog X.w td ty):=by
 intro pins s σ H Q I h;have hu:=hr.units;refine aL8 PySem.F.slot_dict_getitem.lookup hs (cO (ho pins s σ H _ I h) ?_);rintro u s1 ⟨x,H1,I1,rx,q1⟩;refine cO (hi pins s1 σ H1 _ I1 q1) ?_;rintro iv s2 ⟨y,H2,I2,ry,a,v,ex,g,q2⟩;subst ex;obtain rfl:u=Value.ref a:=rx;exact ⟨aT1 I2 g,vZ ∅ I2 g ry fun w' s3 I3 rw'=>⟨v,H2,I3,rw',q2⟩⟩
theorem bY8 (hr:bU k X.A) (hi:PE X i ty) (ho:PE X o td):PC X .In i o (cH4 X.prog X.w ty td):=by
 intro pins s σ H Q I h;have hu:=hr.units;refine cO (hi pins s σ H _ I h) ?_;rintro iv s1 ⟨y,H1,I1,ry,q1⟩;refine cO (ho pins s1 σ H1 _ I1 q1) ?_;rintro u s2 ⟨x,H2,I2,rx,a,ov,ex,g,q2⟩
 subst ex;obtain rfl:u=Value.ref a:=rx;exact cK0 ∅ I2 g ry fun s3 I3=>⟨.bl ov.isSome,H2,I3,rfl,q2⟩
theorem aP3 (hr:bU k X.A) (hi:PE X i ty) (ho:PE X o td):PC X .NotIn i o (aM3 X.prog X.w ty td):=by
 intro pins s σ H Q I h;have hu:=hr.units;refine cO (hi pins s σ H _ I h) ?_;rintro iv s1 ⟨y,H1,I1,ry,q1⟩;refine cO (ho pins s1 σ H1 _ I1 q1) ?_;rintro u s2 ⟨x,H2,I2,rx,a,ov,ex,g,q2⟩
 subst ex;obtain rfl:u=Value.ref a:=rx;exact bL1 ∅ I2 g ry fun s3 I3=>⟨.bl (!ov.isSome),H2,I3,rfl,q2⟩
theorem bI3 (hr:bU k X.A) (ho:PE X o td) (hi:PE X i ty) (hv:PE X value tv) (hs:swapsWith value (some (.Subscript o i pos')) pos.line X.env=pure false) :
  PS X (.Assign [.Subscript o i pos'] value pos) (bM9 X.prog X.w td ty tv):=by
 intro pins s σ H D I h;have hu:=hr.units;refine zi (cO (hv pins s σ H _ I h) ?_) hs;rintro r s1 ⟨v,H1,I1,rv,q1⟩;refine cO (ho pins s1 σ H1 _ I1 q1) ?_;rintro u s2 ⟨x,H2,I2,rx,q2⟩;refine cO (hi pins s2 σ H2 _ I2 q2) ?_;rintro iv s3 ⟨y,H3,I3,ry,a,ex,g⟩;subst ex;obtain rfl:u=Value.ref a:=rx;exact vX ∅ I3 g ry rv fun H4 s4 I4 q3=>⟨σ,H4,I4,q3⟩
theorem bJ0 {op:Operator}{rd:V->V->Hp->VK->Prop}(hr:bU k X.A) (ho:PE X o td) (hi:PE X i ty) (hv:PE X value tv) (hop:bY2 X op rd)
  (ha:∀ ov iv new,augStore i ov iv new=(do holding [new,ov,iv] (setItem ov iv new);release [new,ov,iv] [];pure .next)):PS X (.AugAssign (.Subscript o i tpos) op value pos) (bP5 X.prog X.w td ty tv rd):=by
 intro pins s σ H D I h;have hu:=hr.units;refine wj (cO (ho pins s σ H _ I h) ?_) ha;rintro u s1 ⟨x,H1,I1,rx,q1⟩;refine cO (hi pins s1 σ H1 _ I1 q1) ?_;rintro iv s2 ⟨y,H2,I2,ry,a,v,ex,g,q2⟩;subst ex;obtain rfl:u=Value.ref a:=rx;refine vZ ∅ I2 g ry fun w' s3 I3 rw'=>cO (hv pins s3 σ H2 _ I3 q2) fun w2 s4 ⟨y2,H3,I4,ry2,q3⟩=>cO (hop pins s4 σ H3 v y2 w' w2 _ I4 rw' ry2 q3) fun w3 s5 ⟨z,H4,I5,rz,g5⟩=>?_
 exact vX ∅ I5 g5 ry rz fun H6 s6 I6 q6=>⟨σ,H6,I6,q6⟩
end
theorem aQ.thaw {X:Cx}{pins:List (Addr×Obj)}{σ: St}{H:Hp}{s:Shared}{a:Addr}{o:Obj}{u:HO}(I:aQ X pins σ H s) (e:H a=some (.frz o u)) (n:∀ o' u',X.H₀ a≠some (.frz o' u')) (nt:∀ xs,u≠ .tup xs) (nw:∀ y,u≠ .own y):aQ X pins σ (aJ H a u) s:=by
 have ne:∀ {b v},H b=some v->(∀ o' u',v≠ .frz o' u')->b≠a:=fun {b v} h hv z=>by
  rw [z,e] at h;exact hv _ _ (dm h).symm
 have nn:∀ {b},H b=none->b≠a:=fun {b} h z=>by rw [z,e] at h;cases h
 exists I.ok,I.os,I.bare,⟨I.base.keep,I.base.slot,fun b v q m x=>?_,I.base.there,fun b xs q=>?_,fun b v w q=>?_,fun b ps q=>?_⟩,I.loc,I.cell,?_,fun x c q=>?_,fun p hp=>?_,fun b v q=>?_,I.len
 ·have:=I.base.free b v q m x;rw [aE (nn this)];exact this
 ·have:=I.base.tups b xs q;rw [aE (ne this (by intro _ _ c;cases c))];exact this
 ·have z:=I.base.frzs b v w q;rw [aE (fun c=>by rw [c] at q;exact n _ _ q)];exact z
 ·obtain ⟨m,z⟩:=I.base.tbls b ps q;exact ⟨m,by rw [aE (ne z (by intro _ _ c;cases c))];exact z⟩
 ·rw [aE (nn I.free)];exact I.free
 ·rw [aE (nn (I.freeC x c q))];exact I.freeC x c q
 ·have z:=I.pin p hp;exact ⟨z.1,by rw [aE (nn z.2.1)];exact z.2.1,z.2.2⟩
 ·have tk:∀ c xs,H c=some (.tup xs)->aJ H a u c=some (.tup xs):=fun c xs q=>by rw [aE (ne q (by intro _ _ z;cases z))];exact q
  have wk:∀ c,H c=some (.own b)->aJ H a u c=some (.own b):=fun c q=>by rw [aE (ne q (by intro _ _ z;cases z))];exact q
  by_cases hb:b=a
  ·subst hb;rw [aB] at q
   cases q
   exact (show bO X.prog X.w H s.heap b u from (I.hok b _ e).2).stay (fun c v _ q=>q) wk tk
  ·rw [aE hb] at q;exact (I.hok b v q).stay (fun c v _ q=>q) wk tk
def cC5 (H0:Hp) (t:TS):TS:=fun D σ H=>t { D with nx:=fun σ' G=>D.nx σ' G\/∃ a o u,G a=some (.frz o u)/\(∀ o' u',H0 a≠some (.frz o' u'))/\(∀ xs,u≠ .tup xs)/\(∀ y,u≠ .own y)/\D.nx σ' (aJ G a u) } σ H
theorem nP {X:Cx}{st:Stmt}{t:TS}(h:PS X st t):PS X st (cC5 X.H₀ t):=by
 intro pins s σ H D I q;refine cO (h pins s σ H _ I q) fun f s' q=>?_
 cases f with
 |next =>
  obtain ⟨σ',G,I',p | ⟨a,o,u,e1,n,nt,nw,p⟩⟩:=q
  ·exact ⟨σ',G,I',p⟩
  ·exact ⟨σ',_,I'.thaw e1 n nt nw,p⟩
 |ret v=>exact q
 |brk=>exact q
 |cont=>exact q
def kO (v d:Addr):HO:= .ext fun h=>h.IsValuesView v d
theorem IsValuesView.at' {h h':Heap}{v d:Addr}(x:h.IsValuesView v d) (e:∀ o,h.get? v=some o->h'.get? v=some o):h'.IsValuesView v d:=by obtain ⟨o,ho,r⟩:=x;exact ⟨o,e _ ho,r⟩
section
variable {X:Cx}
end
section
variable {prog:Program}{w:World}{A:Around}{E:Value->Shared->Prop}{s:Shared}{d it v:Addr}{o:Obj}{es:Array DictEntry}{ep i:Nat}
theorem yU {e:DictEntry}{Q:Option Value->Shared->Prop}(hit:s.heap.IsValIter it d i es.size ep) (h1:s.heap.get? d=some o) (h3:o.data= .dict es ep) (he:es[i]?=some e)
  (hQ:∀ h',h'.IsValIter it d (i+1) es.size ep->Heap.SameBut it s.heap h'->Q (some e.val) { s with heap:=h' }):wpAny (model prog w) A (pyNext (.ref it)) Q E s:=by
 obtain ⟨oi,ho,hc,hd⟩:=id hit;unfold pyNext;refine aa (oh (fm (name:=Str.ofString "__next__") hit.typeIs kj (eh kj hit.typeIs uz ?_ (uh _))));refine (show wpAny _ _ (Builtin.Dict_items.slot0 "__next__" ⟨[.ref it],[]⟩ >>= _) _ _ _ from aa ?_);unfold Builtin.Dict_items.slot0 slotArgs;simp only [List.isEmpty_nil,Bool.not_true,Bool.false_eq_true,if_false,bind_assoc,List.length_nil,bne_self_eq_false];refine aa (aj (aj (aa ?_)));refine (show wpAny _ _ ((typeNameOfWhole (.ref it) >>= fun _=>_) >>= fun _=>_) _ _ _ from aa (aa (kr hit.typeIs (aj ?_))));refine aa (ql ho hd ?_)
 dsimp only
 refine (show wpAny _ _ (dictEntries d >>= fun _=>_) _ _ _ from aa (io h1 h3 ?_));rw [ap (by simp)];refine (show wpAny _ _ (dictEpoch d >>= fun _=>_) _ _ _ from aa (jp h1 h3 ?_));rw [ap (by simp)];refine aj ?_;refine (show wpAny _ _ (match if (i:Int) < 0 then none else es[(i:Int).toNat]? with | some e=>_ | none=>_) _ _ _ from ?_);rw [ap ∅,dw,he]
 dsimp only
 refine (show wpAny _ _ ((typeNameOfWhole (.ref it) >>= fun _=>_) >>= fun _=>_) _ _ _ from aa (aa (kr hit.typeIs (aj ?_))));refine aa (uq hit.typeIs ?_);refine aa (pf ho hd (by show (1:Nat) < 4;decide) ?_);have hit':(s.heap.update it (Obj.mapFields (·.setIfInBounds 1 (rawInt ((i:Int)+1))))).IsValIter it d (i+1) es.size ep :=
  ⟨_,kd _ ho (uo (ng hd _)),(xq ..).trans hc,by rw [ng hd];simp [rawInt]⟩
 refine aa (fg ?_);refine (show wpAny _ _ (Builtin.Dict_items.isOneOf (.ref it) _ >>= fun _=>_) _ _ _ from aa (uq (s:={ s with heap:=s.heap.update it (Obj.mapFields (·.setIfInBounds 1 (rawInt ((i:Int)+1)))) }) hit'.typeIs ?_));refine (show wpAny _ _ (Builtin.Dict_items.isOneOf (.ref it) _ >>= fun _=>_) _ _ _ from aa (uq (s:={ s with heap:=s.heap.update it (Obj.mapFields (·.setIfInBounds 1 (rawInt ((i:Int)+1)))) }) hit'.typeIs ?_));refine (show wpAny _ _ (pure e.val) _ _ _ from aj ?_);exact aj ⟨_,rfl,aj (hQ _ hit' (jr ..))⟩
theorem aN0 {Q:Option Value->Shared->Prop}(hh:A.handled=none) (hit:s.heap.IsValIter it d i es.size ep) (h1:s.heap.get? d=some o) (h3:o.data= .dict es ep) (he:es[i]?=none)
  (hQ:∀ h',(∀ c u,c≠it->s.heap.get? c=some u->h'.get? c=some u)->Q none { s with heap:=h' }):wpAny (model prog w) A (pyNext (.ref it)) Q E s:=by
 obtain ⟨oi,ho,hc,hd⟩:=id hit;unfold pyNext;refine aa (oh (fm (name:=Str.ofString "__next__") hit.typeIs kj (eh kj hit.typeIs uz ?_ (uh _))));refine (show wpAny _ _ (Builtin.Dict_items.slot0 "__next__" ⟨[.ref it],[]⟩ >>= _) _ _ _ from aa ?_);unfold Builtin.Dict_items.slot0 slotArgs;simp only [List.isEmpty_nil,Bool.not_true,Bool.false_eq_true,if_false,bind_assoc,List.length_nil,bne_self_eq_false];refine aa (aj (aj (aa ?_)));refine (show wpAny _ _ ((typeNameOfWhole (.ref it) >>= fun _=>_) >>= fun _=>_) _ _ _ from aa (aa (kr hit.typeIs (aj ?_))));refine aa (ql ho hd ?_)
 dsimp only
 refine (show wpAny _ _ (dictEntries d >>= fun _=>_) _ _ _ from aa (io h1 h3 ?_));rw [ap (by simp)];refine (show wpAny _ _ (dictEpoch d >>= fun _=>_) _ _ _ from aa (jp h1 h3 ?_));rw [ap (by simp)];refine aj ?_;refine (show wpAny _ _ (match if (i:Int) < 0 then none else es[(i:Int).toNat]? with | some e=>_ | none=>_) _ _ _ from ?_);rw [ap ∅,dw,he]
 dsimp only
 refine (show wpAny _ _ ((typeNameOfWhole (.ref it) >>= fun _=>_) >>= fun _=>_) _ _ _ from aa (aa (kr hit.typeIs (aj ?_))));refine aa (pf ho hd (by show (0:Nat) < 4;decide) ?_);refine nJ (show A.in1.handled=none from hh) fun e g kp ex=>?_
 obtain ⟨oe,e1,e2⟩:=ex;refine aa (mf (T:="StopIteration") (b:=true) ⟨oe,e1,e2⟩ wq ?_);exact aj (hQ _ fun c u hc e=>kp c u (by rw [jt _ _ _ _ hc];exact e))
theorem tI {Q:Value->Shared->Prop}(hv:s.heap.IsValuesView v d) (h1:s.heap.get? d=some o) (h3:o.data= .dict es ep)
  (h:Q (.ref s.heap.objs.size) { s with heap:=s.heap.push { cls:= .type "dict_valueiterator",data:= .fields #[.ref d,.int 0 0,.int (es.size:Nat) 0,.int (ep:Nat) 0] } }):wpAny (model prog w) A (pyIter (.ref v)) Q E s:=by
 obtain ⟨ov,v1,v2,v3⟩:=id hv;refine xu hv.typeIs yw (eh yw hv.typeIs F.entry_dict_values_iter ?_ (F.args_dict_values_iter_1 _));unfold Builtin.«dict_values.__iter__» Builtin.Dict_items.dictOf Builtin.Dict_items.newIterator;refine aa (aj (aa (aa (gx v1 v3 (x:= .ref d) rfl (aj (aa (aa (io h1 h3 (aa (jp h1 h3 ?_))))))))));rw [show Builtin.Dict_items.ownsTuple "dict_valueiterator"=false by decide];simp only [Bool.false_eq_true,if_false];exact gw (aj ⟨_,rfl,"dict_valueiterator",_,⟨_,aq _ rfl,rfl⟩,F.slot_dict_valueiterator_next.lookup,by simpa [rawInt] using h⟩)
theorem aC0 {Q:Value->Shared->Prop}(ns:(d == sysModules)=false) (h1:s.heap.get? d=some o) (h2:o.ExactDict)
  (h:Q (.ref s.heap.objs.size) { s with heap:=s.heap.push { cls:= .type "dict_values",data:= .fields #[.ref d] } }):wpAny (model prog w) A (call (.builtin "dict.values") [.ref d] []) Q E s:=by
 have hT:s.TypeIs (.ref d) "dict":=⟨o,h1,h2.1⟩
 refine eh sw hT PySem.F.entry_dict_values ?_ (PySem.F.args_dict_values_1 _);refine aa ?_;unfold Builtin.Dict.noArgs;refine aa (je hT ?_);show wpAny _ _ (pure d) _ _ s;refine aj ?_;show wpAny _ _ (Builtin.Dict.showsAll d >>= _) _ _ s;unfold Builtin.Dict.showsAll;rw [ns,ap (by decide)];exact aa (aj (aa (gw (aj ⟨_,rfl,h⟩))))
theorem bB7 {Q:Value->Shared->Prop}(ns:(d == sysModules)=false) (h1:s.heap.get? d=some o) (h2:o.ExactDict)
  (h:Q (.ref s.heap.objs.size) { s with heap:=s.heap.push { cls:= .type "dict_items",data:= .fields #[.ref d] } }):wpAny (model prog w) A (call (.builtin "dict.items") [.ref d] []) Q E s:=by
 have hT:s.TypeIs (.ref d) "dict":=⟨o,h1,h2.1⟩
 refine eh yx hT PySem.F.entry_dict_items ?_ (PySem.F.args_dict_items_1 _);refine aa ?_;unfold Builtin.Dict.noArgs;refine aa (je hT ?_);show wpAny _ _ (pure d) _ _ s;refine aj ?_;show wpAny _ _ (Builtin.Dict.showsAll d >>= _) _ _ s;unfold Builtin.Dict.showsAll;rw [ns,ap (by decide)];exact aa (aj (aa (gw (aj ⟨_,rfl,h⟩))))
theorem bE3 {Q:Value->Shared->Prop}(hv:s.heap.IsItemsView v d) (h1:s.heap.get? d=some o) (h3:o.data= .dict es ep)
  (h:Q (.ref s.heap.objs.size) { s with heap:=s.heap.push { cls:= .type "dict_itemiterator",data:= .fields #[.none,.bool false,.ref d,.int 0 0,.int (es.size:Nat) 0,.int (ep:Nat) 0,.none,.none] } }):wpAny (model prog w) A (pyIter (.ref v)) Q E s:=by
 obtain ⟨ov,v1,v2,v3⟩:=id hv;refine xu hv.typeIs zy (eh zy hv.typeIs F.entry_dict_items_iter ?_ (F.args_dict_items_iter_1 _));unfold Builtin.«dict_items.__iter__» Builtin.Dict_items.dictOf Builtin.Dict_items.newIterator;refine aa (aj (aa (aa (gx v1 v3 (x:= .ref d) rfl (aj (aa (aa (io h1 h3 (aa (jp h1 h3 ?_))))))))));rw [show Builtin.Dict_items.ownsTuple "dict_itemiterator"=true by decide];simp only [Bool.false_eq_true,if_false,if_true];exact gw (aj ⟨_,rfl,"dict_itemiterator",_,⟨_,aq _ rfl,rfl⟩,F.slot_dict_itemiterator_next.lookup,by simpa [rawInt,Builtin.Dict_items.ownedTupleFields] using h⟩)
  (by simp [sizeOk,Builtin.Dict_items.ownedTupleFields,sizeLine_eq])
theorem aY6 {e:DictEntry}{ok ov:Value}{Q:Option Value->Shared->Prop}(hit:IsItemIter s.heap it d i es.size ep ok ov) (h1:s.heap.get? d=some o) (h3:o.data= .dict es ep) (he:es[i]?=some e)
  (hQ:∀ h',IsItemIterOut h' it d (i+1) es.size ep e.key e.val s.heap.objs.size->h'.get? s.heap.objs.size=some { cls:= .type "tuple",data:= .seq #[e.key,e.val] }->(∀ b u,b≠it->s.heap.get? b=some u->h'.get? b=some u)->Q (some (.ref s.heap.objs.size)) { s with heap:=h' }) :
  wpAny (model prog w) A (pyNext (.ref it)) Q E s:=by
 obtain ⟨hp,g,dr,tk,os⟩:=s;have hT:Shared.TypeIs ⟨hp,g,dr,tk,os⟩ (.ref it) "dict_itemiterator":=⟨_,hit,rfl⟩
 unfold pyNext;refine aa (oh (fm (name:=Str.ofString "__next__") hT lg (eh lg hT wc ?_ (vb _))));refine (show wpAny _ _ (Builtin.Dict_items.slot0 "__next__" ⟨[.ref it],[]⟩ >>= _) _ _ _ from aa ?_);unfold Builtin.Dict_items.slot0 slotArgs;simp only [List.isEmpty_nil,Bool.not_true,Bool.false_eq_true,if_false,bind_assoc,List.length_nil,bne_self_eq_false];refine aa (aj (aj (aa ?_)));refine (show wpAny _ _ ((typeNameOfWhole (.ref it) >>= fun _=>_) >>= fun _=>_) _ _ _ from aa (aa (kl hT (aj ?_))));refine aa (ql hit rfl ?_)
 dsimp only
 refine (show wpAny _ _ (dictEntries d >>= fun _=>_) _ _ _ from aa (io h1 h3 ?_));rw [ap (by simp)];refine (show wpAny _ _ (dictEpoch d >>= fun _=>_) _ _ _ from aa (jp h1 h3 ?_));rw [ap (by simp)];refine aj ?_;refine (show wpAny _ _ (match if (i:Int) < 0 then none else es[(i:Int).toNat]? with | some e=>_ | none=>_) _ _ _ from ?_);rw [ap ∅,dw,he]
 dsimp only
 refine (show wpAny _ _ ((typeNameOfWhole (.ref it) >>= fun _=>_) >>= fun _=>_) _ _ _ from aa (aa (kl hT (aj ?_))));refine aa (ud hT ?_);refine (show wpAny _ _ (setField (.ref it) 3 (rawInt ((i:Int)+1)) >>= _) _ _ _ from aa (ib hit (by simp) fun g1 a1 b1=>?_));have a1:IsItemIter g1 it d (i+1) es.size ep ok ov:=by
  have q:((i+1:Nat):Int)=(i:Int)+1:=∅
  unfold IsItemIter;rw [q]
  simpa [rawInt] using a1
 have T1:Shared.TypeIs ⟨g1,g,dr,tk,os⟩ (.ref it) "dict_itemiterator":=⟨_,a1,rfl⟩
 refine aa (fg (aa (ud T1 (aa (ud T1 ?_)))));refine (show wpAny _ _ (Builtin.Dict_items.pairFromOwner (.ref it) 6 e.key e.val) _ _ _ from ?_);unfold Builtin.Dict_items.pairFromOwner Builtin.Dict_items.ownedTupleIsFree;refine aa (aAg ?_);have z1:g1.objs.size=hp.objs.size:=b1.1;have il:it < hp.objs.size:=bi hit;have t2:(g1.push { cls:= .type "tuple",data:= .seq #[e.key,e.val] }).get? hp.objs.size=some { cls:= .type "tuple",data:= .seq #[e.key,e.val] }:=by rw [<- z1];exact aq _ rfl
 have a2:IsItemIter (g1.push { cls:= .type "tuple",data:= .seq #[e.key,e.val] }) it d (i+1) es.size ep ok ov:=af _ a1;have k2:∀ b u,b≠it->hp.get? b=some u->(g1.push { cls:= .type "tuple",data:= .seq #[e.key,e.val] }).get? b=some u:=fun b u n q=>af _ (b1.extBut b u n q)
 rw [z1];generalize g1.push { cls:= .type "tuple",data:= .seq #[e.key,e.val] }=g2 at t2 a2 k2 ⊢;refine aa (aa (gx a2 rfl (x:= .none) rfl (aj ?_)));simp only [if_true];refine aa (gx a2 rfl (x:=ok) rfl (aa (gx a2 rfl (x:=ov) rfl (aa (ib a2 (by simp) fun g3 a3 b3=>?_)))));have a3:IsItemIter g3 it d (i+1) es.size ep e.key ov:=a3;refine aa (ib a3 (by simp) fun g4 a4 b4=>?_);have a4:IsItemIter g4 it d (i+1) es.size ep e.key e.val:=a4;refine aa (ib a4 (by simp) fun g5 a5 b5=>?_);have a5:IsItemIterOut g5 it d (i+1) es.size ep e.key e.val hp.objs.size:=a5;refine aa (ib a5 (by simp) fun g6 a6 b6=>?_);have a6:IsItemIterOut g6 it d (i+1) es.size ep e.key e.val hp.objs.size:=a6;have kk:∀ b u,b≠it->g2.get? b=some u->g6.get? b=some u:=fun b u n q=>b6.extBut b u n (b5.extBut b u n (b4.extBut b u n (b3.extBut b u n q)))
 exact aa (zu (aj (aj ⟨_,rfl,aj (hQ g6 a6 (kk _ _ (ph il) t2) fun b u n q=>kk b u n (k2 b u n q))⟩)))
theorem bF5 {ok ov:Value}{Q:Option Value->Shared->Prop}(hh:A.handled=none) (hit:IsItemIter s.heap it d i es.size ep ok ov) (h1:s.heap.get? d=some o) (h3:o.data= .dict es ep) (he:es[i]?=none)
  (hQ:∀ h',(∀ c u,c≠it->s.heap.get? c=some u->h'.get? c=some u)->Q none { s with heap:=h' }):wpAny (model prog w) A (pyNext (.ref it)) Q E s:=by
 have hT:s.TypeIs (.ref it) "dict_itemiterator":=⟨_,hit,rfl⟩
 unfold pyNext;refine aa (oh (fm (name:=Str.ofString "__next__") hT lg (eh lg hT wc ?_ (vb _))));refine (show wpAny _ _ (Builtin.Dict_items.slot0 "__next__" ⟨[.ref it],[]⟩ >>= _) _ _ _ from aa ?_);unfold Builtin.Dict_items.slot0 slotArgs;simp only [List.isEmpty_nil,Bool.not_true,Bool.false_eq_true,if_false,bind_assoc,List.length_nil,bne_self_eq_false];refine aa (aj (aj (aa ?_)));refine (show wpAny _ _ ((typeNameOfWhole (.ref it) >>= fun _=>_) >>= fun _=>_) _ _ _ from aa (aa (kl hT (aj ?_))));refine aa (ql hit rfl ?_)
 dsimp only
 refine (show wpAny _ _ (dictEntries d >>= fun _=>_) _ _ _ from aa (io h1 h3 ?_));rw [ap (by simp)];refine (show wpAny _ _ (dictEpoch d >>= fun _=>_) _ _ _ from aa (jp h1 h3 ?_));rw [ap (by simp)];refine aj ?_;refine (show wpAny _ _ (match if (i:Int) < 0 then none else es[(i:Int).toNat]? with | some e=>_ | none=>_) _ _ _ from ?_);rw [ap ∅,dw,he]
 dsimp only
 refine (show wpAny _ _ ((typeNameOfWhole (.ref it) >>= fun _=>_) >>= fun _=>_) _ _ _ from aa (aa (kl hT (aj ?_))));refine aa (pf hit rfl (by show (2:Nat) < 8;decide) ?_);refine nJ (show A.in1.handled=none from hh) fun e g kp ex=>?_
 obtain ⟨oe,e1,e2⟩:=ex;refine aa (mf (T:="StopIteration") (b:=true) ⟨oe,e1,e2⟩ wq ?_);exact aj (hQ _ fun c u hc e=>kp c u (by rw [jt _ _ _ _ hc];exact e))
end
section
variable {prog:Program}{w:World}{A:Around}{E:Value->Shared->Prop}{s:Shared}
end
section
variable {X:Cx}
end
open PySem PySem.Spec PyProof.Rows PySem.MeetsSeq
section
variable {prog:Program}{w:World}{A:Around}{E:Value->Shared->Prop}{s:Shared}
end
section
variable {X:Cx}{pins:List (Addr×Obj)}{σ: St}{H:Hp}{s:Shared}
end
open PySem PySem.Spec PyProof.Rows
section
variable {prog:Program}{w:World}{A:Around}{d it v:Addr}{o:Obj}{es:Array DictEntry}{ep:Nat}
theorem zL (hh:A.handled=none) (hne:d≠it) (h3:o.data= .dict es ep) :
  Walks prog w A it [it,d] [it] es.size (fun i v=>∃ e,es[i]?=some e/\v=e.val) (fun i h=>h.IsValIter it d i es.size ep/\h.get? d=some o) where
 sub:=fun b hb=>by simp at hb;simp [hb]
 frame:=fun _ _ _ st hk=>⟨st.1.at fun o e=>hk it (by simp) o e,hk d (by simp) _ st.2⟩
 item:=fun i s Q E hi st hQ=>yU st.1 st.2 h3 (oy hi) fun h' hit' sb=>hQ _ h' s.toks ⟨_,oy hi,rfl⟩ ⟨hit',(sb.2 d hne).trans st.2⟩ fun b o hb e=>(sb.2 b (fun z=>hb (by simp [z]))).trans e
 done:=fun s Q E st hQ=>aN0 hh st.1 st.2 h3 (qf (ao _)) fun h' k=>hQ h' s.toks fun b o hb e=>k b o (fun z=>hb (by simp [z])) e
 self:=fun _ _ _ _ st hQ=>aAv st.1 hQ
theorem bX0 (h3:o.data= .dict es ep):W.KdlSrc prog w "dict_values" v d es.size (fun i x=>∃ e,es[i]?=some e/\x=e.val) (fun h=>h.IsValuesView v d/\h.get? d=some o) where
 type:=fun _ x=>x.1.typeIs
 there:=fun _ x=>⟨let ⟨_,q,_⟩:=x.1;bi q,bi x.2⟩
 keep:=fun _ _ x k=>⟨let ⟨u,q,r⟩:=x.1;⟨u,k v (.inl rfl) u q,r⟩,k d (.inr rfl) _ x.2⟩
 notList:=by decide
 notTuple:=by decide
 hint:=fun _ _ _ _ x q=>W.kdl_hint_values x.1.typeIs q
 iter:=fun _ _ hh x=>⟨_,_,(fun _ _ q=>tI x.1 x.2 h3 q),zL hh (cw (bi x.2)) h3,⟨⟨_,aq _ rfl,rfl,rfl⟩,af _ x.2⟩⟩
end
def aX1 (P:Program) (w:World) (H:Hp) (d:Addr) (vs:List V):Prop:=(∃ kvs:List (Key×V),Rd H d (.dK kvs)/\kvs.map (·.2)=vs)\/(∃ kvs:List (List Key×V),Rd H d (.dT kvs)/\kvs.map (·.2)=vs)\/∃ xs:List NE,Rd H d (dN P w d xs)/\xs.map (·.2.2)=vs
section
variable {X:Cx}{pins:List (Addr×Obj)}{σ: St}{H:Hp}{s:Shared}{d:Addr}{vs:List V}
theorem sZ (I:aQ X pins σ H s) (h:aX1 X.prog X.w H d vs):(d == sysModules)=false/\vs.length<=sizeLine/\∃ o es ep,s.heap.get? d=some o/\o.ExactDict/\o.data= .dict es ep/\es.size=vs.length/\∀ (i:Nat) v,vs[i]?=some v->∃ e:DictEntry,es[i]?=some e/\aX v e.val:=by
 rcases h with ⟨kvs,h,rfl⟩ | ⟨kvs,h,rfl⟩ | ⟨xs,h,rfl⟩
 ·obtain ⟨z,hd,ys,rel,dd⟩:=qP I.hok h;obtain ⟨o,es,ep,h1,h2,h3,h4,h5,h6⟩:=id dd;have l1:es.size=ys.length:=by rw [<- h5.length];simp
  have l2:kvs.length=ys.length:=gj rel;exists hd,by rw [ae];exact z,o,es,ep,h1,h2,h3,by rw [ae];omega,fun i v hv=>?_;rw [cp] at hv
  cases q:kvs[i]? with
  |none=>rw [q] at hv;cases hv
  |some p =>
   rw [q] at hv
   cases hv
   obtain ⟨u,hu,ru⟩:=aG9 (i:=i) (k:=p.1) (v:=p.2) rel q;have hi:i < es.size:=by rw [l1];exact (bw.mp hu).1
   obtain ⟨_,e2⟩:=h5.get? (e:=es[i]) (by simp [hi]) hu;exact ⟨es[i],oy hi,by rw [e2];exact ru⟩
 ·obtain ⟨z,hd,ys,rel,dd⟩:=qM I.hok h;obtain ⟨o,es,ep,h1,h2,h3,h4,h5,h6⟩:=id dd;have l2:kvs.length=ys.length:=gj rel;have l1:es.size=ys.length:=by rw [<- jc,h4,ae]
  exists hd,by rw [ae];exact z,o,es,ep,h1,h2,h3,by rw [ae];omega,fun i v hv=>?_;rw [cp] at hv
  cases q:kvs[i]? with
  |none=>rw [q] at hv;cases hv
  |some p =>
   rw [q] at hv
   cases hv
   obtain ⟨u,hu,ru⟩:=lO rel q;exact ⟨_,by rw [<- gu,h4,cp,hu];rfl,ru.2.2⟩
 ·obtain ⟨z,y,nd,ys,r,o,es,ep,h1,h2,h3,h4⟩:=(show bO X.prog X.w H s.heap d (dN X.prog X.w d xs) from aN1 I.hok h).1;have l2:xs.length=ys.length:=gj r;have l1:es.size=ys.length:=by rw [<- jc,h4,ae]
  exists y,by rw [ae];exact z,o,es,ep,h1,h2,h3,by rw [ae];omega,fun i v hv=>?_;rw [cp] at hv
  cases q:xs[i]? with
  |none=>rw [q] at hv;cases hv
  |some p =>
   rw [q] at hv
   cases hv
   obtain ⟨u,hu,ru⟩:=lO r q;exact ⟨_,by rw [<- gu,h4,cp,hu];rfl,ru.2.2⟩
end
section
variable {X:Cx}
def bP9 (P:Program) (w:World) (td:TE):TE:=fun σ H Q=>td σ H fun x H1=>∃ d vs,x= .ref d/\aX1 P w H1 d vs/\∀ v,H1 v=none->Q (.ref v) (aJ H1 v (kO v d))
theorem zD {o:Expr}{apos cpos:Pos}{td:TE}(ho:PE X o td) (hbase:autoParam (attributeBase o "values" X.env (eval o X.env)=eval o X.env) Rq0._auto_1) (hline:autoParam ((apos.endLine == cpos.line)=true) Rq0._auto_1):PE X (.Call (.Attribute o "values" apos) [] [] cpos) (bP9 X.prog X.w td):=by
 intro pins s σ H Q I h;refine pq hbase hline (cO (ho pins s σ H _ I h) ?_);rintro v s1 ⟨x,H1,I1,r1,d,vs,ex,hd,q1⟩;subst ex;obtain rfl:v=Value.ref d:=r1;obtain ⟨hs,z,ob,es,ep,g1,g2,g3,_⟩:=sZ I1 hd;have ty:s1.TypeIs (.ref d) "dict":=⟨ob,g1,g2.1⟩
 exists "dict","dict.values",lh,sw,yo,ty,fun b q=>?_,ja rfl (rc ?_)
 ·cases q
  exact ⟨ob,g1,g2.2.1⟩
 refine aC0 hs g1 g2 ?_;have f:=I1.hok.fresh (ao s1.heap.objs.size);have e1:(s1.heap.push { cls:= .type "dict_values",data:= .fields #[.ref d] }).get? s1.heap.objs.size=some { cls:= .type "dict_values",data:= .fields #[.ref d] }:=aq _ rfl;exact ⟨.ref s1.heap.objs.size,_,I1.laid (o:=kO s1.heap.objs.size d) (t':=s1.toks) (fun b u e=>af _ e) (ao _) ⟨⟨_,e1,rfl,rfl⟩,⟨_,e1⟩,fun h1 h2 a b=>IsValuesView.at' a b⟩,rfl,q1 _ f⟩
theorem aR9 (hc:autoParam (X.calm=true) Rq0._auto_1):dL X (.builtin "sum") (fun xs H Q=>∃ (v d:Addr) (ns:List Int),xs=[.ref v]/\H v=some (kO v d)/\aX1 X.prog X.w H d (ns.map V.int)/\Q (.int ns.sum) H):=by
 intro pins s σ H xs us Q I r h;obtain ⟨p,d,ns,rfl,hp,hd,q⟩:=h;obtain ⟨u,rfl,ru⟩:=gT r
 cases ru
 obtain ⟨hs,z,o,es,ep,g1,g2,g3,sz,gv⟩:=sZ I hd;have vw:s.heap.IsValuesView p d:=(show bO X.prog X.w H s.heap p (kO p d) from I.hok p _ hp).1;have ld:=bi g1;rw [ae] at sz;have val:∀ i v,(∃ e:DictEntry,es[i]?=some e/\v=e.val)->∃ t,v=Value.int (ns.getD i 0) t:=fun i v ⟨e,he,ev⟩=>by
  have hb:i < ns.length:=by
   rw [<- sz];exact (Array.getElem?_eq_some_iff.mp he).1
  obtain ⟨e2,h2,r2⟩:=gv i (.int ns[i]) (by rw [cp,ak hb];rfl);rw [he] at h2
  cases h2
  obtain ⟨t,et⟩:=r2;exact ⟨t,by rw [ev,et];simp [List.getD,hb]⟩
 refine call_sum_walkG (tI vw g1 g3 ⟨s.heap.objs.size,_,_,_,_,_,fun i=>ns.getD i 0,rfl,zL (A:=X.A.in1) (I.ok.hd hc) (cw ld) g3,⟨⟨_,aq _ rfl,rfl,rfl⟩,af _ g1⟩,?_,val,?_⟩)
 ·intro b hb;rw [ip];rcases bo.mp hb with y | y
  ·rw [y];exact dy _
  ·have y:b=d:=by simpa using y
   rw [y];exact on ld
 ·intro h' tk t' hk;have kept:∀ b u,s.heap.get? b=some u->h'.get? b=some u:=fun b u e=>hk b u (by
   intro y;have y:b=s.heap.objs.size:=by simpa using y
   exact absurd (bi e) (by rw [y];exact ff _)) (af _ e)
  exists .int ns.sum,H,I.kept kept,⟨t',?_⟩,q;rw [sz,xY ns _ (ao _),be]
theorem aD3 (hc:autoParam (X.calm=true) Rq0._auto_1):dL X (.type "list") (fun xs H Q=>∃ (v d:Addr) (vs:List V),xs=[.ref v]/\H v=some (kO v d)/\aX1 X.prog X.w H d vs/\∀ l,H l=none->Q (.ref l) (aJ H l (.lst vs))):=by
 intro pins s σ H xs us Q I r h;obtain ⟨p,d,vs,rfl,hp,hd,q⟩:=h;obtain ⟨u,rfl,ru⟩:=gT r
 cases ru
 obtain ⟨hs,z,o,es,ep,g1,g2,g3,sz,gv⟩:=sZ I hd;have vw:s.heap.IsValuesView p d:=(show bO X.prog X.w H s.heap p (kO p d) from I.hok p _ hp).1;refine W.kdl_call (bX0 (o:=o) (es:=es) (ep:=ep) g3) (I.ok.hd hc) ⟨vw,g1⟩ (by rw [sz];exact z) fun h' tk acc c kp hl ai=>?_
 have f:=I.hok.fresh (ao s.heap.objs.size);exists .ref s.heap.objs.size,_,I.laid (o:= .lst vs) (t':=tk) kp (ao _) ⟨z,acc.toList,c,?_,by rw [hl,vi]⟩,rfl,q _ f;have al:acc.toList.length=vs.length:=by rw [jc,ai.1,sz]
 have all:∀ (a:List V) (b:List Value),b.length=a.length->(∀ (i:Nat) x y,a[i]?=some x->b[i]?=some y->aX x y)->bB a b:=by
  intro a
  induction a with
  |nil=>intro b hb _;cases b with
   |nil=>exact .nil
   |cons _ _=>cases hb
  |cons x a ih=>intro b hb hr;cases b with
   |nil=>cases hb
   |cons y b=>exact .cons (hr 0 x y rfl rfl) (ih b (by simpa using hb) fun i x y h1 h2=>hr (i+1) x y (by simpa using h1) (by simpa using h2))
 refine all vs acc.toList al fun i x y hx hy=>?_
 obtain ⟨e,he,ey⟩:=ai.2 i y (by rw [<- gu];exact hy);obtain ⟨e2,h2,r2⟩:=gv i x hx;rw [he] at h2
 cases h2
 rw [ey];exact r2
end
theorem aQ.freezeE {X:Cx}{pins:List (Addr×Obj)}{σ: St}{H:Hp}{s:Shared}{d:Addr}{o:Obj}{φ: Heap->Prop}(I:aQ X pins σ H s) (h:H d=some (.ext φ)) (ho:s.heap.get? d=some o) :
  aQ X pins σ (aJ H d (.frz o (.ext φ))) s:=by
 have nd:∀ b u,H b=some u->(∀ z,u≠ .ext z)->b≠d:=fun b u e hu z=>by
  rw [z,h] at e;exact hu _ (dm e).symm
 refine I.step (g':=s.gens) (d':=s.drawn) (t':=s.toks) (h':=s.heap) (ch:=[]) (fun _ z=>nomatch z) (fun b u _ _ _ e _=>e) (fun b u _ _ _ e _=>⟨u.slots,e⟩) (fun b u _ e n=>by rw [aE (fun z=>by rw [z,h] at n;cases n)];exact n)
  (fun b u _ e=>⟨u,e⟩) (fun b xs e=>by rw [aE (nd b _ e (by intro z c;cases c))];exact e) (fun b u v e=>by rw [aE (nd b _ e (by intro z c;cases c))];exact e)
  (fun b ps e=>⟨#[],by rw [aE (nd b _ e (by intro z c;cases c)),e];simp⟩) (fun m hm=>hm) (fun b u e=>?_) I.bare
 by_cases hb:b=d
 ·subst hb;rw [aB] at e
  cases e
  exists ho,?_;exact (show bO X.prog X.w H s.heap b (.ext φ) from I.hok b _ h).stay (fun c v _ q=>q) (fun c q=>by rw [aE (nd c _ q (by intro z w;cases w))];exact q) fun c xs q=>by rw [aE (nd c _ q (by intro z w;cases w))];exact q
 ·rw [aE hb] at e;exact (I.hok b u e).stay (fun c v _ q=>q) (fun c q=>by rw [aE (nd c _ q (by intro z w;cases w))];exact q) fun c xs q=>by rw [aE (nd c _ q (by intro z w;cases w))];exact q
theorem mC {X:Cx}{pins:List (Addr×Obj)}{σ: St}{H:Hp}{s:Shared}{d:Addr}{o:Obj}{xs:List NE}{es:Array DictEntry}{ep:Nat}(I:aQ X pins σ H s) (ho:o.data= .dict es ep) (h:H d=some (.frz o (dN X.prog X.w d xs))) :
  s.heap.get? d=some o/\o.ExactDict/\(d == sysModules)=false/\es.size=xs.length/\∀ (i:Nat) (x:NE),xs[i]?=some x->∃ e:DictEntry,es[i]?=some e/\e.key= .ref x.2.1/\aX x.2.2 e.val:=by
 obtain ⟨e,hh,_⟩:=(show bO X.prog X.w H s.heap d (.frz o (dN X.prog X.w d xs)) from I.hok d _ h)
 obtain ⟨z,ns,nd,ys,r,o',es',ep',h1,h2,h3,h4⟩:=hh;rw [e] at h1
 cases h1
 rw [ho] at h3
 cases h3
 have l:xs.length=ys.length:=gj r;exists e,h2,ns,by rw [<- jc,h4,ae];omega,fun i x hx=>?_;obtain ⟨q,hq,r1,r2,r3⟩:=lO r hx;exact ⟨_,by rw [<- gu,h4,cp,hq];rfl,by rw [r2];rfl,r3⟩
def ItI (P:Program) (w:World) (d:Addr) (o:Obj) (xs:List NE):It :=
 ⟨fun i H=>i < xs.length/\H d=some (.frz o (dN P w d xs)),fun i H x H'=>∃ t y,H t=none/\xs[i]?=some y/\x= .ref t/\H'=aJ H t (.tup [.ref y.2.1,y.2.2]),fun i H=>xs.length<=i/\H d=some (.frz o (dN P w d xs))⟩
theorem aI6 {P:Program}{w:World}{K:W.Frag}{elts:List Expr}{x1:Nat}{pos:Pos}(d it:Addr) (o:Obj) (xs:List NE) {es:Array DictEntry}{ep:Nat}(ho:o.data= .dict es ep) (sz:es.size=xs.length) :
  uF P w K (.Tuple elts x1 pos) (ItI P w d o xs) [it] it (fun i h=>∃ ok ov,IsItemIter h it d i es.size ep ok ov) where
 mem:=by simp
 obj:=fun i h st b hb=>by
  have e:b=it:=by simpa using hb
  subst e;obtain ⟨_,_,st⟩:=st;exact ⟨_,st,fun v z=>by cases z⟩
 keep:=fun i h h' st k=>let ⟨a,b,st⟩:=st;⟨a,b,k it (by simp) _ st⟩
 item:=by
  intro X hP hw hK hc i pins s σ H E I hf st hg;subst hP hw hK;obtain ⟨hi,hd⟩:=hg;obtain ⟨ok,ov,st⟩:=st;obtain ⟨h1,h2,ns,sz,at'⟩:=mC I ho hd;obtain ⟨e,he,ek,ev⟩:=at' i xs[i] (ak hi);refine aY6 st h1 ho he fun g z1 T1 k1=>⟨_,rfl,wpAny_letOwnedTupleGo_items z1 fun g2 z2 sb=>?_⟩
  have nT:s.heap.objs.size≠it:=ph (bi st);have kk:∀ c u,c∉[it]->s.heap.get? c=some u->g2.get? c=some u:=fun c u hc e=>by
   have hc:c≠it:=by simpa using hc
   exact (sb.2 c hc).trans (k1 c u hc e)
  have TT:g2.get? s.heap.objs.size=some { cls:= .type "tuple",data:= .seq #[e.key,e.val] }:=(sb.2 _ nT).trans T1;have I2:=I.turnedNew (T:=s.heap.objs.size) (o:= .tup [.ref xs[i].2.1,xs[i].2.2]) (rs:=[it]) (t':=s.toks) hf kk (ao _) ⟨cT,[e.key,e.val],.cons ek (.cons ev .nil),⟨_,TT,rfl,_,rfl,rfl⟩⟩;exists .ref s.heap.objs.size,_,I2,rfl,⟨_,xs[i],I.fresh,ak hi,rfl,rfl⟩,⟨_,_,z2⟩,fun c hc=>?_;have e:c=it:=by simpa using hc
  rw [aE (by rw [e];exact nT.symm)];exact (hf c hc).1
 done:=by
  intro X hP hw hK hc i pins s σ H E I hf st hg;subst hP hw hK;obtain ⟨hi,hd⟩:=hg;obtain ⟨ok,ov,st⟩:=st;obtain ⟨h1,h2,ns,sz,at'⟩:=mC I ho hd;refine bF5 (I.ok.hd hc) st h1 ho (qf ∅) fun g k=>⟨rfl,I.turnedL (rs:=[it]) (t':=s.toks) hf fun c u hc e=>?_⟩
  exact k c u (by simpa using hc) e
 self:=fun A i s Q E st h=>by
  obtain ⟨_,_,st⟩:=st;exact W.kcp_self st h
def bT7 (P:Program) (w:World) (td:TE):TI:=fun σ H R=>td σ H fun x H1=>∃ d xs,x= .ref d/\H1 d=some (dN P w d xs)/\∀ o,R (ItI P w d o xs) (aJ H1 d (.frz o (dN P w d xs)))
theorem uJ {X:Cx}{o:Expr}{apos cpos:Pos}{td:TE}{elts:List Expr}{x1:Nat}{tpos:Pos}(ho:PE X o td) (hbase:autoParam (attributeBase o "items" X.env (eval o X.env)=eval o X.env) Rq0._auto_1) (hline:autoParam ((apos.endLine == cpos.line)=true) Rq0._auto_1) :
  PI X (.Tuple elts x1 tpos) (.Call (.Attribute o "items" apos) [] [] cpos) (bT7 X.prog X.w td):=by
 intro pins s σ H R I h;refine pq hbase hline (cO (ho pins s σ H _ I h) ?_);rintro v s1 ⟨x,H1,I1,r1,d,xs,ex,hd,q1⟩;subst ex;obtain rfl:v=Value.ref d:=r1;obtain ⟨z,ns,nd,ys,r,ob,es,ep,g1,g2,g3,g4⟩:=(show bO X.prog X.w H1 s1.heap d (dN X.prog X.w d xs) from I1.hok d _ hd).1;have ty:s1.TypeIs (.ref d) "dict":=⟨ob,g1,g2.1⟩
 exists "dict","dict.items",lh,yx,PySem.F.type_dict_items,ty,fun b q=>?_,ja rfl (rc ?_)
 ·cases q
  exact ⟨ob,g1,g2.2.1⟩
 refine bB7 ns g1 g2 ?_;have I2:=I1.freezeE hd g1;obtain ⟨_,_,_,sz,_⟩:=mC I2 g3 aB;have I3:aQ X pins σ _ { s1 with heap:=s1.heap.push { cls:= .type "dict_items",data:= .fields #[.ref d] } }:=I2.kept (t':=s1.toks) fun b u e=>af _ e
 refine bE3 (o:=ob) (es:=es) (ep:=ep) ⟨_,aq _ rfl,rfl,rfl⟩ (af _ g1) g3 ?_;have f:(aJ H1 d (.frz ob (dN X.prog X.w d xs))) (s1.heap.push { cls:= .type "dict_items",data:= .fields #[.ref d] }).objs.size=none:=I3.hok.fresh (ao _);exists _,[(s1.heap.push { cls:= .type "dict_items",data:= .fields #[.ref d] }).objs.size],_,_,_,rfl,I3.kept (t':=s1.toks) fun b u e=>af _ e,aI6 d _ ob xs g3 sz,⟨_,_,aq _ rfl⟩,fun b hb=>?_,q1 ob;have e:b=(s1.heap.push { cls:= .type "dict_items",data:= .fields #[.ref d] }).objs.size:=by simpa using hb
 subst e;exact I3.fpOk (ao _) f
theorem vK {P:Program}{w:World}{d:Addr}{o:Obj}{xs:List NE}{g:TG}{tb:TS}{D:uM}{σ: St}{H:Hp}(Pv:Nat->St->Hp->Prop) (h0:Pv 0 σ H) (hl:∀ i σ H,i<=xs.length->Pv i σ H->H d=some (.frz o (dN P w d xs)))
  (hs:∀ i x t σ H,xs[i]?=some x->H t=none->Pv i σ H->g (.ref t) σ (aJ H t (.tup [.ref x.2.1,x.2.2])) fun σ2 H2=>tb { D with nx:=Pv (i+1),ct:=Pv (i+1),bk:=D.nx } σ2 H2) (hd:∀ σ H,Pv xs.length σ H->D.nx σ H) :
  ∃ W:Nat->Nat->St->Hp->Prop,(∃ m,W 0 m σ H)/\∀ i m σ H,W i m σ H ->
   ((ItI P w d o xs).stop i H/\D.nx σ H)\/((ItI P w d o xs).go i H/\∃ N:St->Hp->Prop,(∀ σ' H',N σ' H'->∃ m',m' < m/\W (i+1) m' σ' H')/\∀ x H',(ItI P w d o xs).yld i H x H'->g x σ H' fun σ2 H2=>tb { D with nx:=N,ct:=N,bk:=D.nx } σ2 H2):=by
 exists fun i m σ H=>m=xs.length - i/\i<=xs.length/\Pv i σ H,⟨_,rfl,df _,h0⟩,?_;rintro i m σ H ⟨rfl,hi,p⟩
 by_cases c:i < xs.length
 ·right;exists ⟨c,hl i σ H hi p⟩,Pv (i+1),fun σ' H' p'=>⟨xs.length - (i+1),∅,rfl,c,p'⟩,?_;rintro x H' ⟨t,y,ht,hy,rfl,rfl⟩;exact hs i y t σ H hy ht p
 ·left;have e:i=xs.length:=∅
  exact ⟨⟨∅,hl i σ H hi p⟩,hd σ H (by rw [<- e];exact p)⟩
theorem aD5 {P:Program}{w:World}{d:Addr}{o:Obj}{xs:List NE}{g:TG}{tc:TT}{te:TE}{Kf:List V->Hp->Prop}{σ0:St}{H1:Hp}(Pv:Nat->List V->St->Hp->Prop) (hz:xs.length < sizeLine) (h0:Pv 0 [] σ0 H1) (hb:∀ i zs σ H,Pv i zs σ H->zs.length<=i)
  (hl:∀ i zs σ H,i<=xs.length->Pv i zs σ H->H d=some (.frz o (dN P w d xs)))
  (hs:∀ i x t zs σ H,xs[i]?=some x->H t=none->Pv i zs σ H->g (.ref t) σ (aJ H t (.tup [.ref x.2.1,x.2.2])) fun σ2 H2=>tc σ2 H2 fun b H3=>if b=true then te σ2 H3 fun y H4=>Pv (i+1) (zs++[y]) σ2 H4 else Pv (i+1) zs σ2 H3)
  (hd:∀ zs σ H,Pv xs.length zs σ H->Kf zs H):lM (ItI P w d o xs) g tc te Kf σ0 H1:=by
 exists fun i m zs σ H=>m=xs.length - i/\i<=xs.length/\Pv i zs σ H,⟨xs.length,by simp,df _,h0⟩,?_;rintro i m zs σ H ⟨rfl,hi,p⟩;have q1:=hl i zs σ H hi p;exists db (hb _ _ _ _ p) (db hi hz),?_
 by_cases hlt:i < xs.length
 ·refine .inr ⟨⟨hlt,q1⟩,Pv (i+1),fun zs' σ' H' p'=>⟨xs.length - (i+1),gk hlt (dy i),rfl,hlt,p'⟩,?_⟩;rintro x H' ⟨t,y,ht,hy,rfl,rfl⟩;exact hs i y t zs σ H hy ht p
 ·have e:i=xs.length:=∅
  subst e;exact .inl ⟨⟨ao _,q1⟩,hd zs σ H p⟩
def ItV (P:Program) (w:World) (d:Addr) (o:Obj) (xs:List NE):It :=
 ⟨fun i H=>i < xs.length/\H d=some (.frz o (dN P w d xs)),fun i H x H'=>H'=H/\∃ y,xs[i]?=some y/\x=y.2.2,fun i H=>xs.length<=i/\H d=some (.frz o (dN P w d xs))⟩
theorem aA9 {P:Program}{w:World}{K:W.Frag}{tg:Expr}(d it:Addr) (o:Obj) (xs:List NE) {es:Array DictEntry}{ep:Nat}(ho:o.data= .dict es ep) (sz:es.size=xs.length) :
  uF P w K tg (ItV P w d o xs) [it] it (fun i h=>h.IsValIter it d i es.size ep) where
 mem:=by simp
 obj:=fun i h st b hb=>by
  have e:b=it:=by simpa using hb
  subst e;obtain ⟨o,e,c,q⟩:=st;exact ⟨o,e,fun v z=>by rw [q] at z;cases z⟩
 keep:=fun i h h' st k=>st.at fun o e=>k it (by simp) o e
 item:=by
  intro X hP hw hK hc i pins s σ H E I hf st hg;subst hP hw hK;obtain ⟨hi,hd⟩:=hg;obtain ⟨f0,f1,f2,f3,f4,f5⟩:=hf it (by simp);obtain ⟨h1,h2,ns,sz,at'⟩:=mC I ho hd;obtain ⟨e,he,ek,ev⟩:=at' i xs[i] (ak hi);refine yU st h1 ho he fun h' st' sb=>?_
  have I1:aQ X pins σ H { s with heap:=h' }:=I.turned (t':=s.toks) (fun b o hb e=>(sb.2 b hb).trans e) f0 f1 f3 f4 f5;obtain ⟨o2,e2,c2,d2⟩:=id st';exists e.val,rfl,go_of (s:={ s with heap:=h' }) e2 c2 d2 (by decide) ⟨xs[i].2.2,H,I1,ev,⟨rfl,xs[i],ak hi,rfl⟩,st',fun b hb=>(hf b hb).1⟩
 done:=by
  intro X hP hw hK hc i pins s σ H E I hf st hg;subst hP hw hK;obtain ⟨hi,hd⟩:=hg;obtain ⟨f0,f1,f2,f3,f4,f5⟩:=hf it (by simp);obtain ⟨h1,h2,ns,sz,at'⟩:=mC I ho hd;exact aN0 (I.ok.hd hc) st h1 ho (qf ∅) fun h' eb=>⟨rfl,I.turned (t':=s.toks) (fun b o hb e=>eb b o hb e) f0 f1 f3 f4 f5⟩
 self:=fun _ _ _ _ _ st h=>aAv st h
def cB2 (P:Program) (w:World) (td:TE):TI:=fun σ H R=>td σ H fun x H1=>∃ d xs,x= .ref d/\H1 d=some (dN P w d xs)/\∀ o,R (ItV P w d o xs) (aJ H1 d (.frz o (dN P w d xs)))
theorem bF0 {X:Cx}{o:Expr}{apos cpos:Pos}{td:TE}{tg:Expr}(ho:PE X o td) (hbase:autoParam (attributeBase o "values" X.env (eval o X.env)=eval o X.env) Rq0._auto_1) (hline:autoParam ((apos.endLine == cpos.line)=true) Rq0._auto_1) :
  PI X tg (.Call (.Attribute o "values" apos) [] [] cpos) (cB2 X.prog X.w td):=by
 intro pins s σ H R I h;refine pq hbase hline (cO (ho pins s σ H _ I h) ?_);rintro v s1 ⟨x,H1,I1,r1,d,xs,ex,hd,q1⟩;subst ex;obtain rfl:v=Value.ref d:=r1;obtain ⟨z,ns,nd,ys,r,ob,es,ep,g1,g2,g3,g4⟩:=(show bO X.prog X.w H1 s1.heap d (dN X.prog X.w d xs) from I1.hok d _ hd).1;have ty:s1.TypeIs (.ref d) "dict":=⟨ob,g1,g2.1⟩
 exists "dict","dict.values",lh,sw,yo,ty,fun b q=>?_,ja rfl (rc ?_)
 ·cases q
  exact ⟨ob,g1,g2.2.1⟩
 refine aC0 ns g1 g2 ?_;have I2:=I1.freezeE hd g1;obtain ⟨_,_,_,sz,_⟩:=mC I2 g3 aB;have I3:aQ X pins σ _ { s1 with heap:=s1.heap.push { cls:= .type "dict_values",data:= .fields #[.ref d] } }:=I2.kept (t':=s1.toks) fun b u e=>af _ e
 refine tI (o:=ob) (es:=es) (ep:=ep) ⟨_,aq _ rfl,rfl,rfl⟩ (af _ g1) g3 ?_;have f:(aJ H1 d (.frz ob (dN X.prog X.w d xs))) (s1.heap.push { cls:= .type "dict_values",data:= .fields #[.ref d] }).objs.size=none:=I3.hok.fresh (ao _);exists _,[(s1.heap.push { cls:= .type "dict_values",data:= .fields #[.ref d] }).objs.size],_,_,_,rfl,I3.kept (t':=s1.toks) fun b u e=>af _ e,aA9 d _ ob xs g3 sz,⟨_,aq _ rfl,rfl,rfl⟩,fun b hb=>?_,q1 ob;have e:b=(s1.heap.push { cls:= .type "dict_values",data:= .fields #[.ref d] }).objs.size:=by simpa using hb
 subst e;exact I3.fpOk (ao _) f
theorem aT3 {P:Program}{w:World}{d:Addr}{o:Obj}{xs:List NE}{g:TG}{tb:TS}{D:uM}{σ: St}{H:Hp}(Pv:Nat->St->Hp->Prop) (h0:Pv 0 σ H) (hl:∀ i σ H,i<=xs.length->Pv i σ H->H d=some (.frz o (dN P w d xs)))
  (hs:∀ i x σ H,xs[i]?=some x->Pv i σ H->g x.2.2 σ H fun σ2 H2=>tb { D with nx:=Pv (i+1),ct:=Pv (i+1),bk:=D.nx } σ2 H2) (hd:∀ σ H,Pv xs.length σ H->D.nx σ H) :
  ∃ W:Nat->Nat->St->Hp->Prop,(∃ m,W 0 m σ H)/\∀ i m σ H,W i m σ H ->
   ((ItV P w d o xs).stop i H/\D.nx σ H)\/((ItV P w d o xs).go i H/\∃ N:St->Hp->Prop,(∀ σ' H',N σ' H'->∃ m',m' < m/\W (i+1) m' σ' H')/\∀ x H',(ItV P w d o xs).yld i H x H'->g x σ H' fun σ2 H2=>tb { D with nx:=N,ct:=N,bk:=D.nx } σ2 H2):=by
 exists fun i m σ H=>m=xs.length - i/\i<=xs.length/\Pv i σ H,⟨_,rfl,df _,h0⟩,?_;rintro i m σ H ⟨rfl,hi,p⟩
 by_cases c:i < xs.length
 ·right;exists ⟨c,hl i σ H hi p⟩,Pv (i+1),fun σ' H' p'=>⟨xs.length - (i+1),∅,rfl,c,p'⟩,?_;rintro x H' ⟨rfl,y,hy,rfl⟩;exact hs i y σ _ hy p
 ·left;have e:i=xs.length:=∅
  exact ⟨⟨∅,hl i σ H hi p⟩,hd σ H (by rw [<- e];exact p)⟩
def pQ (H:Hp) (ys:List V) (es:List (List NKey×V)):Prop:=ys.length=es.length/\∀ (i:Nat) e,es[i]?=some e->∃ t c,ys[i]?=some (.ref t)/\H t=some (.tup [.ref c,e.2])/\qY H e.1 c
def kP (es:List (List NKey×V)):List (List NKey×V):=es.foldl (fun m e=>bF m e.1 e.2) []
theorem tG {es:List (List NKey×V)}{i:Nat}{e:List NKey×V}(h:es[i]?=some e):kP (es.take (i+1))=bF (kP (es.take i)) e.1 e.2:=by
 unfold kP;rw [List.take_add_one,h,ot];rfl
theorem aO7 (es:List (List NKey×V)):(kP es).length<=es.length:=by
 have:∀ (es m:List (List NKey×V)),(es.foldl (fun m e=>bF m e.1 e.2) m).length<=m.length+es.length:=by
  intro es
  induction es with
  |nil=>intro m;exact ao _
  |cons e r ih =>
   intro m;rw [jd,dq];have:=ih (bF m e.1 e.2);have:=dG m e.1 e.2;omega
 have:=this es [];unfold kP
 simpa using this
section
variable {X:Cx}{pins:List (Addr×Obj)}{σ: St}{H:Hp}{s:Shared}{A:Around}{E:Value->Shared->Prop}
theorem aE0 {p d it:Addr}{ys:List V}{es:List (List NKey×V)}{Q:Value->Shared->Prop}(hu:A.in1.units+8 < cLine) (hA:A.in1.handled=none) (hp:H p=some (.lst ys)) (hd:H d=none) (hi0:H it=none) (hid:it≠d) (C:pQ H ys es) (hz:es.length < sizeLine)
  (q:∀ s' G,aQ X pins σ G s'->DN X.prog X.w G d (kP es)->(∀ c,c≠d->G c=H c)->Q .none s'):∀ (n i:Nat) (tk:Tok) (s:Shared) (G:Hp),n+i=ys.length->aQ X pins σ G s->DN X.prog X.w G d (kP (es.take i))->(∀ c,c≠d->G c=H c)->kS X pins G it->s.heap.IsListIter it p i ->
  codeAny (model X.prog X.w) A (.builtin "dict.update.loop" ⟨[.ref d,.ref it,.int i tk,.none],[]⟩) (wants Q E) s:=by
 intro n
 induction n with
 |zero =>
  intro i tk s G hn I hD hG hf st;have e:i=ys.length:=∅
  subst e;have hp':G p=some (.lst ys):=by rw [hG p (aF hp hd)];exact hp
  obtain ⟨its,rv,tp,hz⟩:=I.list (bK.of hp');obtain ⟨f0,f1,f2,f3,f4,f5⟩:=hf;have hl:=rv.length;rw [C.1,be] at hD;refine qb iF ?_;unfold Builtin.«dict.update.loop»;refine aa (qi hA st tp.isList (by simp;omega) fun h' eb=>?_);have I1:=I.turned (h':=h') (t':=s.toks) (fun b o hb e=>eb b o hb e) f0 f1 f3 f4 f5;show wpAny _ _ (Builtin.Dict.addKeywords d [] >>= fun _=>ret Value.none) _ _ _;exact aa (aj (aj (q _ _ I1 hD hG)))
 |succ n ih =>
  intro i tk s G hn I hD hG hf st;have hi:i < es.length:=by have:=C.1;omega
  obtain ⟨t,c,ey,ht,hk⟩:=C.2 i es[i] (ak hi);have hp':G p=some (.lst ys):=by rw [hG p (aF hp hd)];exact hp
  have ts:∀ b ys,H b=some (.tup ys)->G b=some (.tup ys):=fun b ys e=>by rw [hG b (aF e hd)];exact e
  have ht':=ts _ _ ht;obtain ⟨its,rv,tp,hz'⟩:=I.list (bK.of hp');obtain ⟨u,hu',ru⟩:=rv.get ey
  cases ru
  obtain ⟨f0,f1,f2,f3,f4,f5⟩:=id hf;refine qb iF ?_;unfold Builtin.«dict.update.loop»;refine aa (qe st tp.isList (x:= .ref t) (by simpa using hu') fun h' st' sb=>?_);have I1:=I.turned (h':=h') (t':=s.toks) (fun b o hb e=>(sb.2 b hb).trans e) f0 f1 f3 f4 f5;obtain ⟨its2,rv2,⟨o2,e2,c2,m2,d2⟩,_⟩:=I1.tuple (aT.of ht');obtain ⟨uk,uv,rfl,rk,rV⟩:=tV rv2;refine aa (fg (aa (aAf ?_)));refine (show wpAny _ _ (typeOf (.ref t) >>= _) _ _ _ from aa (my (T:="tuple") ⟨o2,e2,c2⟩ ?_));refine (show wpAny _ _ (seqItems? (.ref t) >>= _) _ _ _ from aa (ia e2 d2 (aj ?_)));show wpAny _ _ (holding [uk,uv] (dictSet d uk uv)) _ _ _;have fl:=aO7 (es.take i);rw [bx] at fl;refine fg (aQ5 (W:=fun G'=>DN X.prog X.w G' d (bF (kP (es.take i)) es[i].1 es[i].2)/\∀ c,c≠d->G' c=G c) hu I1 (.inr ⟨_,es[i].1,c,hD,rfl,hk.ts ts,∅,fun G' a b=>⟨a,b⟩⟩) rk rV fun G' s2 I2 sb2 W=>?_)
  refine (show wpAny _ _ (again _) _ _ _ from aj ⟨nc _ (by decide +kernel),?_⟩);have ni:G' it=none:=by rw [W.2 it hid,hG it hid];exact hi0
  refine ih (i+1) _ s2 G' ∅ I2 ?_ (fun c hc=>(W.2 c hc).trans (hG c hc)) ⟨ni,f1,f2,f3,f4,f5⟩ (st'.at fun ob e=>(sb2.2 it hid).trans e);rw [tG (ak hi)];exact W.1
theorem kJ {k:Nat}(hr:bU k X.A):dL X (.type "dict") (fun xs H Q=>∃ (p:Addr) (ys:List V) (es:List (List NKey×V)),xs=[.ref p]/\H p=some (.lst ys)/\pQ H ys es/\es.length < sizeLine/\∀ d G,H d=none->DN X.prog X.w G d (kP es)->(∀ c,c≠d->G c=H c)->Q (.ref d) G):=by
 intro pins s σ H xs us Q I r h;obtain ⟨p,ys,es,rfl,hp,C,hz,h⟩:=h;obtain ⟨u,rfl,ru⟩:=gT r
 cases ru
 have hf:H s.heap.objs.size=none:=I.hok.fresh (ao _);have hu:=hr.un;have ty:(⟨s.heap.push { cls:= .type "dict",data:= .dict #[] },s.gens,s.drawn,s.toks,s.os⟩:Shared).TypeIs (.ref s.heap.objs.size) "dict":=⟨_,aq _ rfl,rfl⟩
 have I1:aQ X pins σ (aJ H s.heap.objs.size (dN X.prog X.w s.heap.objs.size [])) { s with heap:=s.heap.push { cls:= .type "dict",data:= .dict #[] } } :=
  I.laid (a:=s.heap.objs.size) (t':=s.toks) (fun _ _ q=>af _ q) (ao _) (aV1 s.heap I.big)
 refine wn (Q₁:=fun obj s₁=>obj= .ref s.heap.objs.size/\s₁={ s with heap:=s.heap.push { cls:= .type "dict",data:= .dict #[] } }) yj (vo _) xp (yk _ ⟨rfl,rfl⟩) ?_;rintro obj s₁ ⟨rfl,rfl⟩;exists ty,xc _ _,?_;unfold Builtin.«dict.__init__»;refine aa ?_;unfold Builtin.Dict.selfAndRest;refine aa (je ty ?_);show wpAny _ _ (pure (s.heap.objs.size,[Value.ref p])) _ _ _;refine aj ?_;show wpAny _ _ (Builtin.Dict.updateFrom "dict.__init__" s.heap.objs.size (.ref p) [] .none) _ _ _;unfold Builtin.Dict.updateFrom;generalize hd0:s.heap.objs.size=d at hf I1 ⊢;have hD:DN X.prog X.w (aJ H d (dN X.prog X.w d [])) d (kP (es.take 0)):=⟨[],aB,by rw [aAj];rfl,fun _ z=>absurd z cu⟩
 have hG:∀ c,c≠d->aJ H d (dN X.prog X.w d []) c=H c:=fun c hc=>aE hc
 generalize aJ H d (dN X.prog X.w d [])=G at I1 hD hG;have hp1:G p=some (.lst ys):=by rw [hG p (aF hp hf)];exact hp
 obtain ⟨_,its,n1,rv,e1⟩:=(show bO X.prog X.w _ _ p (.lst ys) from I1.hok p _ hp1)
 refine aa (my (T:="list") ⟨_,e1,rfl⟩ ?_);rw [bh (by decide)];refine aa (keys_missL e1 (show X.A.handled=none from hr.hd) fun h' tk kp=>?_);have I2:=I1.kept (h':=h') (t':=tk) kp;rw [bh (by rfl)];refine aa (mj (aa (im (items:=its.toArray) ⟨_,kp _ _ e1,rfl,_,rfl⟩ ?_)));have I3:=I2.kept (h':=h'.push { cls:= .type "list_iterator",data:= .fields #[.ref p,.int 0 0] }) (t':=tk) fun b o e=>af _ e
 have hit:G h'.objs.size=none:=I2.hok.fresh (ao _);have hid:h'.objs.size≠d:=fun z=>by
  obtain ⟨_,q,_⟩:=hD;rw [z,q] at hit
  cases hit
 have hi0:H h'.objs.size=none:=by rw [<- hG _ hid];exact hit
 refine aj ⟨nc _ (by decide +kernel),?_⟩;refine aE0 (A:=X.A.in1) (Q:=fun r s₂=>r=Value.none/\EP X pins σ Q (.ref d) s₂) (H:=H) (p:=p) (ys:=ys) (es:=es) (by show X.A.units+1+1+8 < cLine;omega) (show X.A.handled=none from hr.hd) hp hf hi0 hid C hz (fun s' G' I' D' o'=>⟨rfl,.ref d,G',I',rfl,h d G' hf D' o'⟩) ys.length 0 _ _ G ∅ I3 hD hG ⟨hit,?_⟩ ⟨_,aq _ rfl,rfl,rfl⟩;exact (I2.fpOk (H':=G) (ao _) hit).2
end
section
variable {X:Cx}{o i e value:Expr}{pos pos' tpos:Pos}{td ty tv:TE}{k:Nat}
theorem aU0 (P:Program) (w:World) (hr:bU k X.A) (ho:PE X o td) (hi:PE X i ty) (hs:autoParam (aY2 i) Rq5._auto_1) (hP:autoParam (X.prog=P) Rq0._auto_1) (hw:autoParam (X.w=w) Rq0._auto_1):PE X (.Subscript o i pos) (bO6 P w td ty):=by subst hP hw;exact bJ1 hr ho hi hs
theorem cB8 (P:Program) (w:World) (hr:bU k X.A) (hi:PE X i ty) (ho:PE X o td) (hP:autoParam (X.prog=P) Rq0._auto_1) (hw:autoParam (X.w=w) Rq0._auto_1):PC X .In i o (cH4 P w ty td):=by subst hP hw;exact bY8 hr hi ho
theorem cF5 (P:Program) (w:World) (hr:bU k X.A) (hi:PE X i ty) (ho:PE X o td) (hP:autoParam (X.prog=P) Rq0._auto_1) (hw:autoParam (X.w=w) Rq0._auto_1):PC X .NotIn i o (aM3 P w ty td):=by subst hP hw;exact aP3 hr hi ho
theorem cI4 (P:Program) (w:World) (hr:bU k X.A) (ho:PE X o td) (hi:PE X i ty) (hv:PE X value tv) (hs:autoParam (swapsWith value (some (.Subscript o i pos')) pos.line X.env=pure false) Rq0._auto_1) (hP:autoParam (X.prog=P) Rq0._auto_1) (hw:autoParam (X.w=w) Rq0._auto_1):PS X (.Assign [.Subscript o i pos'] value pos) (bM9 P w td ty tv):=by subst hP hw;exact bI3 hr ho hi hv hs
theorem cC3 (P:Program) (w:World) {op:Operator}{rd:V->V->Hp->VK->Prop}(hr:bU k X.A) (ho:PE X o td) (hi:PE X i ty) (hv:PE X value tv) (hop:bY2 X op rd)
  (ha:∀ ov iv new,augStore i ov iv new=(do holding [new,ov,iv] (setItem ov iv new);release [new,ov,iv] [];pure .next):=by exact fun _ _ _=>rfl) (hP:autoParam (X.prog=P) Rq0._auto_1) (hw:autoParam (X.w=w) Rq0._auto_1):PS X (.AugAssign (.Subscript o i tpos) op value pos) (bP5 P w td ty tv rd):=by subst hP hw;exact bJ0 hr ho hi hv hop ha
end
section
variable {prog:Program}{w:World}{K:Type} [DecidableEq K] {knd:HeapKind prog w K}{A:Around}{E:Value->Shared->Prop}{s:Shared}{d a:Addr}{xs:List (K×Addr×Value)}{k:K}
theorem yO {x:Value}{Q:Value->Shared->Prop}(hu:knd.room A) (hkey:knd.is s.heap k a) (hm:s.heap.DictOfH knd d xs) (hz:xs.length<=sizeLine)
  (h1:∀ v,(atKey xs k).map (·.2)=some v->Q v { s with toks:=s.toks+knd.draws k })
  (h2:(atKey xs k).map (·.2)=none->∀ h',h'.DictOfH knd d (storedH xs k a x)->Heap.SameBut d s.heap h'->Q x { s with heap:=h',toks:=s.toks+knd.draws k }):wpAny (model prog w) A (dictSetDefault d (.ref a) x) Q E s:=by
 obtain ⟨o,es,ep,ho,hc,hd,he,his,hn⟩:=hm;unfold dictSetDefault;refine fg (aa (knd.pyHash hu hkey (aa (wpAny_dictFind_heap (s:={ s with toks:=s.toks+knd.draws k }) hu hkey ho hd he his hn (fun no=>?_) fun j p hj=>?_))))
 ·have nk:k∉xs.map (·.1):=not_mem_keys_of_get no;have an:=atKey_none_of_get no;refine aa (mj (aa (wpAny_updateDictKeys (hz:=by have e:=size_of_entries he;omega) (s:={ s with toks:=s.toks+knd.draws k }) ho hd (aj (h2 (by rw [an];rfl) _ ⟨_,_,ep+1,kd _ ho (Obj.isFreed_of_dict (aAw hd _)),hc.mapDictKeys _,aAw hd _,?_,?_,?_⟩ (jr ..))))))
  all_goals rw [storedH_new an]
  ·simp [he,entryOfKey]
  ·intro y hy;rcases cj.mp hy with q | q
   ·exact knd.keeps (his y q) ho hd (jr ..)
   ·rw [ck.mp q];exact knd.keeps hkey ho hd (jr ..)
  ·rw [bp];refine qh.mpr ⟨hn,by simp,fun y hy z hz q=>nk ?_⟩;have:z=k:=by simpa using hz
   rw [<- this, <- q];exact hy
 ·refine (show wpAny _ _ (dictEntries d _ >>= _) _ _ _ from aa (io (s:={ s with toks:=s.toks+knd.draws k }) ho hd ?_));rw [entry_at he j,hj];exact aa (mj (aj (h1 _ (by rw [atKey_of_get hn hj];rfl))))
end
def bX5 (td ty tx:TE):TE:=fun σ H Q=>td σ H fun x H1=>∃ a,x= .ref a/\IsD H1 a/\ty σ H1 fun y H2=>tx σ H2 fun z H3=>∃ o H4,fJ H3 a y o/\kB H3 a y z H4/\(∀ v,o=some v->Q v H3)/\(o=none->Q z H4)
section
variable {X:Cx}{pins:List (Addr×Obj)}{σ: St}{H:Hp}{s:Shared}{A:Around}{E:Value->Shared->Prop}
theorem aP1 {a:Addr}{y x:V}{u r:Value}{o:Option V}{H4:Hp}{Q:VK}(hu:A.units+1 < cLine) (I:aQ X pins σ H s) (g:fJ H a y o) (p:kB H a y x H4) (ry:aX y u) (rx:aX x r) (h1:∀ v,o=some v->Q v H) (h2:o=none->Q x H4) :
  wpAny (model X.prog X.w) A (call (.builtin "dict.setdefault") [.ref a,u,r]) (EP X pins σ Q) E s:=by
 rcases p with ⟨kvs,k,ea,ey,hz,eH⟩ | ⟨kvs,k,b,ea,ey,eb,hz,eH⟩
 ·subst ey eH;have eo:o=bH kvs k:=by
   rcases g with ⟨kv2,k2,e,ey,l⟩ | ⟨kv2,k2,b,e,ey,eb,l⟩
   ·rcases e with e | ⟨_,e⟩
    ·rw [ea] at e
     cases e
     have:k=k2:=by
      cases k <;> cases k2
      ·exact ed Sum.inl (V.int.inj ey)
      ·cases ey
      ·cases ey
      ·exact ed Sum.inr (V.str.inj ey)
     rw [this];exact l
    ·rw [ea] at e;cases e
   ·cases k <;> cases ey
  subst eo;exact aT8 I ea ry rx hz h1 h2
 ·subst ey eH
  cases (show u=Value.ref b from ry)
  have eo:o=bH kvs k:=by
   rcases g with ⟨kv2,k2,e,ey,l⟩ | ⟨kv2,k2,b2,e,ey,eb2,l⟩
   ·cases k2 <;> cases ey
   ·rcases e with e | ⟨_,e⟩
    ·rw [ea] at e
     cases e
     cases ey
     rw [eb] at eb2;have:k=k2:=by
      have q:k.map kV=k2.map kV:=HO.tup.inj (dm eb2);have inj:∀ {p q:List Key},p.map kV=q.map kV->p=q:=by
       intro p
       induction p with
       |nil=>intro q h;cases q with
        |nil=>rfl
        |cons _ _=>cases h
       |cons x p ih=>intro q h;cases q with
        |nil=>cases h
        |cons y q =>
         rw [au,au] at h;injection h with h1 h2
         have:x=y:=by
          cases x <;> cases y
          ·exact ed Sum.inl (V.int.inj h1)
          ·cases h1
          ·cases h1
          ·exact ed Sum.inr (V.str.inj h1)
         rw [this,ih h2]
      exact inj q
     rw [this];exact l
    ·rw [ea] at e;cases e
  subst eo;obtain ⟨z,hd,xs,rel,dd⟩:=aX4 I.hok ea;obtain ⟨ob,es,ep,g1,g2,g3,g4,g5,g6⟩:=id dd;have tyd:s.TypeIs (.ref a) "dict":=⟨ob,g1,g2.1⟩
  refine eh qm tyd we ?_ (wa _ _ _);unfold Builtin.«dict.setdefault» Builtin.Dict.keyAndDefault;refine aa (aa (je tyd ?_));refine (show wpAny _ _ (pure (a,Value.ref b,some r)) _ _ _ from aj ?_);refine (show wpAny _ _ (if (a == sysModules)=true then _ else (dictSetDefault a (.ref b) r >>= _)) _ _ _ from ?_);rw [ap (by rw [hd];decide)];have rv:=rel.val k;refine aa (yO (knd:=tupleKind (bL X.prog X.w)) (show A.units+1 < cLine from hu) (lQ I.hok eb) dd (by rw [<- gj rel];exact z) (fun v hv=>?_) fun hn h' dd' hs=>?_)
  ·cases l:bH kvs k with
   |none =>
    rw [l] at rv;rw [hE.none_of rv] at hv;cases hv
   |some v' =>
    rw [l] at rv;obtain ⟨w',hw,rw'⟩:=hE.some_of rv;rw [hw] at hv
    cases hv
    exact aj ⟨_,rfl,v',H,I.tok _,rw',h1 v' l⟩
  ·cases l:bH kvs k with
   |some v' =>
    rw [l] at rv;obtain ⟨w',hw,rw'⟩:=hE.some_of rv;rw [hn] at hw;cases hw
   |none =>
    have hl:(bF kvs k x).length<=sizeLine:=by have:=dG kvs k x;omega
    obtain ⟨q,es',ep',hq,w2,w3,w4,_,w5⟩:=dd';refine aj ⟨_,rfl,x,aJ H a (.dT (bF kvs k x)),iX I (by rw [ea];exact gm) hs ⟨q,hq⟩ ⟨hl,hd,_,(rel.put k eb rx).keeps fun c ys ec=>?_,q,es',ep',hq,w2,w3,w4,w5⟩,rx,h2 l⟩;rw [aE (bN ec ea (fun z=>nomatch z))];exact ec
end
section
variable {X:Cx}{o e f:Expr}{apos cpos:Pos}{td ty tx:TE}
theorem bA3 (hu:X.A.units+2 < cLine) (ho:PE X o td) (he:PE X e ty) (hf:PE X f tx) (m:M2 X o "setdefault" apos e f cpos):PE X (.Call (.Attribute o "setdefault" apos) [e,f] [] cpos) (bX5 td ty tx):=by
 intro pins s σ H Q I h;refine wpAny_Call_method m.base m.few m.line lh qm PySem.F.type_dict_setdefault (cO (ho pins s σ H _ I h) ?_);rintro u s1 ⟨x,H1,I1,rx,a,ex,d,q1⟩;subst ex;obtain rfl:u=Value.ref a:=rx;obtain ⟨t1,t2,_⟩:=bA2 I1 d;exists t1,t2,?_;rw [m.trees];refine ja rfl (ve (ka (cO (he pins s1 σ H1 _ I1 q1) ?_)));rintro iv s2 ⟨y,H2,I2,ry,q2⟩;refine ka (cO (hf pins s2 σ H2 _ I2 q2) ?_);rintro fv s3 ⟨z,H3,I3,rz,ov,H4,g,p,q3,q4⟩;refine qg ?_;exact aP1 ∅ I3 g p ry rz q3 q4
end
def bF6 (lo:Int) (n:Nat):It:=⟨fun i _=>i < n,fun i H x H'=>H'=H/\x= .int (lo+(i:Nat) * 2),fun i _=>n<=i⟩
theorem aB2 {P:Program}{w:World}{K:PySem.W.Frag}{tg:Expr}(it:Addr) (lo:Int) (n:Nat):uF P w K tg (bF6 lo n) [it] it (fun i h=>IsRangeIter h it (lo+(i:Nat) * 2) ((n:Int) - (i:Nat)) 2) where
 mem:=by simp
 obj:=fun i h st b hb=>by
  have e:b=it:=by simpa using hb
  subst e;exact ⟨_,st,fun v z=>by
   have z':Data.fields _=Data.cell v:=z
   cases z'⟩
 keep:=fun i h h' st k=>k it (by simp) _ st
 item:=by
  intro X hP hw hK hc i pins s σ H E I hf st hg;subst hP hw hK;obtain ⟨f0,f1,f2,f3,f4,f5⟩:=hf it (by simp);have W:=Walks.range (prog:=X.prog) (w:=X.w) (I.ok.hd hc) it lo 2 n;refine W.item i s _ _ hg st fun v h' tk hv st' kk=>?_
  obtain ⟨t,rfl⟩:=hv;have I1:aQ X pins σ H { s with heap:=h',toks:=tk }:=I.turned (fun b o hb e=>kk b o (by simpa using hb) e) f0 f1 f3 f4 f5;exact ⟨_,rfl,go_of (s:={ s with heap:=h',toks:=tk }) (n:="range_iterator") st' rfl rfl (by decide) ⟨.int (lo+(i:Nat) * 2),H,I1,⟨t,rfl⟩,⟨rfl,rfl⟩,st',fun b hb=>(hf b hb).1⟩⟩
 done:=by
  intro X hP hw hK hc i pins s σ H E I hf st hg;subst hP hw hK;obtain ⟨f0,f1,f2,f3,f4,f5⟩:=hf it (by simp);exact zd (I.ok.hd hc) st (by have:n<=i:=hg;omega) fun h' eb=>⟨rfl,I.turned (t':=s.toks) (fun b o hb e=>eb b o hb e) f0 f1 f3 f4 f5⟩
 self:=fun _ _ _ _ _ st h=>ze st h
def mO (lo hi:Int):Nat:=((hi - lo+1) / 2).toNat
section
variable {X:Cx}{tg:Expr}
theorem aN9 {pins:List (Addr×Obj)}{σ: St}{H:Hp}{s:Shared}{R:It->Hp->Prop}{E:Value->Shared->Prop}{lo hi:Int}{t u v:Tok}{tk:Nat}(I:aQ X pins σ H s) (h1:0<=lo) (h2:lo < 1000000) (h3: -1000000<=hi) (h4:hi < 1000000)
  (q:R (bF6 lo (mO lo hi)) H):wpAny (model X.prog X.w) X.A (pyIter (.ref s.heap.objs.size)) (PIE X pins σ tg R) E { s with heap:=s.heap.push { cls:= .type "range",data:= .fields #[.int lo t,.int hi u,.int 2 v] },toks:=tk }:=by
 refine aBj (IsRange.new ..) ?_ ?_
 ·unfold Builtin.Range.small Builtin.Range.rangeSize;rw [bh (show (2:Int) > 0 by decide)];simp only [Builtin.Range.rangeFitsLong,Bool.and_eq_true,Bool.or_eq_true,decide_eq_true_eq,beq_iff_eq,show (2:Int) > 0 by decide,if_true]
  split <;> omega
 have I1:aQ X pins σ H { s with heap:=s.heap.push { cls:= .type "range",data:= .fields #[.int lo t,.int hi u,.int 2 v] },toks:=tk }:=I.kept fun b o e=>af _ e
 refine ⟨(s.heap.push { cls:= .type "range",data:= .fields #[.int lo t,.int hi u,.int 2 v] }).objs.size,[(s.heap.push { cls:= .type "range",data:= .fields #[.int lo t,.int hi u,.int 2 v] }).objs.size],_,_,H,rfl,
  I1.kept (t':=tk) fun b o e=>af _ e,aB2 _ lo (mO lo hi),?_,fun b hb=>?_,q⟩
 ·have e1:lo+((0:Nat):Int) * 2=lo:=by simp
  have e2:(((mO lo hi:Nat):Int)) - ((0:Nat):Int)=Builtin.Range.rangeSize lo hi 2:=by unfold mO Builtin.Range.rangeSize;rw [bh (by decide)];split <;> omega
  show IsRangeIter _ _ (lo+((0:Nat):Int) * 2) (((mO lo hi:Nat):Int) - ((0:Nat):Int)) 2;rw [e1,e2];exact aq _ rfl
 ·have e:b=(s.heap.push { cls:= .type "range",data:= .fields #[.int lo t,.int hi u,.int 2 v] }).objs.size:=by simpa using hb
  subst e;exact I1.fpOk (ao _) (I1.hok.fresh (ao _))
def cG9 (ta:TA):TI:=fun σ H R=>ta σ H fun vs H1=>∃ i j:Int,vs=[.int i,.int j,.int 2]/\0<=i/\i < 1000000/\ -1000000<=j/\j < 1000000/\R (bF6 i (mO i j)) H1
theorem vR {a b c:Expr}{ta:TA}{p pos:Pos}(hg:Gl X "range") (hm:X.mg "range"=none) (ha:PA X [a,b,c] ta) (hs:autoParam (starEach [a,b,c] X.env=(false,eval a X.env) :: starEach [b,c] X.env) Rq0._auto_1) (hs2:autoParam ((backTo pos (starEach [b,c] X.env)).any (·.1)=false) Rq0._auto_1) :
  PI X tg (.Call (.Name "range" p) [a,b,c] [] pos) (cG9 ta):=by
 intro pins s σ H R I h;refine Call_ (kH I hg hm boot_range (gt (cO (ha pos pins s σ H _ I h) ?_) hs hs2));rintro us s1 ⟨vs,H1,I1,r1,q1⟩;obtain ⟨i,j,e,q1,q2,q3,q4,q⟩:=q1;subst e
 cases r1 with
 |cons r rr =>
  cases rr with
  |cons r' rr =>
   cases rr with
   |cons r'' rr =>
    cases rr
    obtain ⟨t,rfl⟩:=r;obtain ⟨t',rfl⟩:=r';obtain ⟨t'',rfl⟩:=r'';exact call_range_3 (by decide) (aN9 I1 q1 q2 q3 q4 q) (jg (PyProof.noPylong_small ∅))
end
section
variable {g:TG}{tc:TT}{te:TE}
theorem qQ {lo:Int}{n:Nat}{Kf:List V->Hp->Prop}{σ0:St}{H1:Hp}(Pv:Nat->List V->St->Hp->Prop) (hz:n < sizeLine) (h0:Pv 0 [] σ0 H1) (hb:∀ i ys σ H,Pv i ys σ H->ys.length<=i)
  (hs:∀ i ys σ H,i < n->Pv i ys σ H->g (.int (lo+(i:Nat) * 2)) σ H fun σ2 H2=>tc σ2 H2 fun b H3=>if b=true then te σ2 H3 fun y H4=>Pv (i+1) (ys++[y]) σ2 H4 else Pv (i+1) ys σ2 H3) (hd:∀ ys σ H,Pv n ys σ H->Kf ys H):lM (bF6 lo n) g tc te Kf σ0 H1:=by
 exists fun i m ys σ H=>m=n - i/\i<=n/\Pv i ys σ H,⟨n,by simp,df _,h0⟩,?_;rintro i m ys σ H ⟨rfl,hi,p⟩;exists db (hb _ _ _ _ p) (db hi hz),?_
 by_cases hlt:i < n
 ·refine .inr ⟨hlt,Pv (i+1),fun ys' σ' H' p'=>⟨n - (i+1),gk hlt (dy i),rfl,hlt,p'⟩,fun x H' y=>?_⟩;obtain ⟨e,y⟩:=y;subst e y;exact hs i ys σ _ hlt p
 ·have e:i=n:=∅
  subst e;exact .inl ⟨ao _,hd ys σ H p⟩
end
section
variable {X:Cx}
end
section
variable {prog:Program}{w:World}{A:Around}{E:Value->Shared->Prop}{s:Shared}
theorem aB3 {it l:Addr}{its:Array Value}(ne:l≠it):∀ (n i:Nat) (s:Shared) (Q:List Value->Shared->Prop),s.heap.IsListIter it l i->s.heap.IsList l its->i+n<=its.size ->
  (∀ g,g.IsListIter it l (i+n)->Heap.SameBut it s.heap g->Q ((its.toList.drop i).take n) { s with heap:=g })->wpAny (model prog w) A (draw (.ref it) n) Q E s
 |0,i,s,Q,st,_,_,k=>by
  show wpAny _ _ (pure []) Q E s;exact aj (by simpa using k s.heap st (Heap.SameBut.refl ..))
 |n+1,i,s,Q,st,pl,hn,k=>by
  have lt:i < its.size:=∅
  show wpAny _ _ (pyNext (.ref it) >>= _) Q E s;refine aa (qe st pl (x:=its[i]) (by simp [lt]) fun g1 st1 sb1=>?_);refine aa (fg (aB3 ne n (i+1) _ _ st1 (pl.at fun o e=>(sb1.2 l ne).trans e) ∅ fun g2 st2 sb2=>aj ?_));have dr:its.toList.drop i=its[i] :: its.toList.drop (i+1):=by simp [List.drop_eq_getElem_cons,lt]
  have fin:=k g2 (by rw [show i+(n+1)=i+1+n by omega];exact st2) (sb1.trans sb2);rw [dr,List.take_succ_cons] at fin;exact fin
theorem aF8 {l:Addr}{its:Array Value}{Q:List Value->Shared->Prop}(hh:A.handled=none) (pl:s.heap.IsList l its) (k:∀ g,Heap.ExtBut s.heap.objs.size s.heap g->Q its.toList { s with heap:=g }) :
  wpAny (model prog w) A (unpackItems (.ref l) its.size none) Q E s:=by
 have ne:l≠s.heap.objs.size:=by obtain ⟨o,ho,_⟩:=pl;exact cw (bi ho)
 unfold unpackItems notIterableAtAll;refine aa (aa (kh pl.typeIs PySem.F.slot_list_iter.lookup (aj ?_)));simp only [Bool.false_eq_true,if_false];refine aa (fg (im pl ?_));have pl1:(s.heap.push { cls:= .type "list_iterator",data:= .fields #[.ref l,.int 0 0] }).IsList l its:=pl.at fun o e=>af _ e
 refine aa (fg (aB3 ne its.size 0 _ _ ⟨_,aq _ rfl,rfl,rfl⟩ pl1 ∅ fun g1 st1 sb1=>?_));rw [List.drop_zero,jx (by simp),ap (by simp)];refine aa (fg (qi hh st1 (pl1.at fun o e=>(sb1.2 l ne).trans e) (by simp) fun g2 eb=>?_));simp only [Option.isSome_none,Bool.false_eq_true,if_false];exact aj (k g2 fun b o hb e=>eb b o hb ((sb1.2 b hb).trans (af _ e)))
theorem aD8 {env:Env}{elts:List Expr}{x1} {pos:Pos}{l:Addr}{its:Array Value}{Q:Unit->Shared->Prop}(hh:A.handled=none) (pl:s.heap.IsList l its)
  (hn:(assignEach elts env).length=its.size) (hst:(assignEach elts env).findIdx? (·.1)=none)
  (k:∀ g,Heap.ExtBut s.heap.objs.size s.heap g->wpAny (model prog w) A (assignInOrder ((assignEach elts env).map (·.2)) its.toList) Q E { s with heap:=g }):wpAny (model prog w) A (assign (.Tuple elts x1 pos) env (.ref l)) Q E s:=by
 rw [assign_Tuple];refine aa (ue ?_);unfold unpack;rw [hn,hst];exact aa (fg (aF8 hh pl k))
end
section
variable {X:Cx}{pos:Pos}
def cI6 (K:W.Frag) (n:Nat) (t:TGs):TG:=fun v σ H Q=>∃ a xs,v= .ref a/\bK K H a xs/\xs.length=n/\t xs σ H Q
theorem bV3 {es:List Expr}{k:Nat}{t:TGs}{n:Nat}(hc:X.calm=true) (h:PGs X es t) (hn:autoParam ((assignEach es X.env).length=n) Rq0._auto_1) (hst:autoParam ((assignEach es X.env).findIdx? (·.1)=none) Rq0._auto_1):PG X (.Tuple es k pos) (cI6 X.K n t):=by
 intro pins s σ H v u Q I r hw;obtain ⟨a,xs,e1,hq,hl,hw⟩:=hw;subst e1
 cases r
 obtain ⟨its,rv,pl,hz⟩:=I.list hq;refine aD8 (I.ok.hd hc) pl.isList (by simp [hn, <- hl,rv.length]) hst fun g eb=>?_
 exact h pins _ σ H xs _ Q (I.kept (t':=s.toks) fun b o e=>eb b o (cw (bi e)) e) (by simpa using rv) hw
end
theorem aI9 (bt:Nat->Nat->Bool):∀ k,argBest bt k<=k
 |0=>ao _
 |k+1=>by
  have:=aI9 bt k;rw [argBest]
  split <;> omega
theorem aF2 {X:Cx}(hc:autoParam (X.calm=true) Rq0._auto_1):dL X (.builtin "min") (fun xs H Q=>∃ (p:Addr) (ns:List Int),xs=[.ref p]/\aT X.K H p (ns.map V.int)/\ns≠[]/\∀ i∈ns,Q (.int i) H):=by
 intro pins s σ H xs us Q I r h;obtain ⟨p,ns,rfl,hq,hne,q⟩:=h;obtain ⟨u,rfl,ru⟩:=gT r
 cases ru
 obtain ⟨its,rv,pl,hz⟩:=I.tuple hq;have it:s.heap.IsTuple p its.toArray:=pl;have lp:p < s.heap.objs.size:=by
  obtain ⟨o,e,_⟩:=it;exact bi e
 have hl:=rv.length;rw [ae] at hl;have val:∀ i v,its.toArray[i]?=some v->∃ t,v=Value.int (ns.getD i 0) t:=fun i v hv=>by
  have hi:its[i]?=some v:=by simpa using hv
  have hb:i < ns.length:=by
   have:=(bw.mp hi).1;omega
  obtain ⟨u,hu,ru⟩:=rv.get (i:=i) (x:=V.int ns[i]) (by rw [cp,ak hb];rfl);rw [hi] at hu
  cases hu
  obtain ⟨t,e⟩:=ru;exact ⟨t,by rw [e];simp [List.getD,hb]⟩
 have hpos:0 < its.toArray.size:=by
  rw [cv, <- hl]
  cases ns with
  |nil=>exact absurd rfl hne
  |cons _ _=>simp
 refine call_min_walk (rp it ⟨s.heap.objs.size,_,_,_,_,_,_,rfl,Walks.tuple (A:=X.A.in1) (I.ok.hd hc) s.heap.objs.size p (cw lp) its.toArray,⟨⟨_,aq _ rfl,rfl,rfl⟩,it.at fun o e=>af _ e⟩,?_,hpos,CmpOf.ints_lt (fun i=>ns.getD i 0) val,?_⟩)
 ·intro b hb;rw [ip];rcases bo.mp hb with z | z
  ·rw [z];exact dy _
  ·have z:b=p:=by simpa using z
   rw [z];exact on lp
 ·intro v h' tk hv hk;have kept:∀ b o,s.heap.get? b=some o->h'.get? b=some o:=fun b o e=>hk b o (by
   intro z;have z:b=s.heap.objs.size:=by simpa using z
   exact absurd (bi e) (by rw [z];exact ff _)) (af _ e)
  obtain ⟨t,rfl⟩:=val _ _ hv;exists .int _,H,I.kept kept,⟨t,rfl⟩,q _ ?_;have b:=aI9 (fun i j=>decide (ns.getD i 0 < ns.getD j 0)) (its.toArray.size - 1);have b2:argBest (fun i j=>decide (ns.getD i 0 < ns.getD j 0)) (its.toArray.size - 1) < ns.length:=by
   have e:its.toArray.size=its.length:=cv;have p:0 < its.toArray.size:=hpos;omega
  rw [xk,ak b2];exact jz b2
theorem zZ (f:Nat->Int):∀ k i,i<=k->f (argBest (fun i j=>decide (f i < f j)) k)<=f i
 |0,i,h=>by
  have:i=0:=∅
  subst this;exact gi _
 |k+1,i,h=>by
  have ih:=zZ f k;rw [argBest]
  by_cases c:f (k+1) < f (argBest (fun i j=>decide (f i < f j)) k)
  ·rw [bh (ar c)]
   by_cases e:i=k+1
   ·rw [e];exact gi _
   ·have:=ih i ∅;omega
  ·rw [ap (by simpa using c)]
   by_cases e:i=k+1
   ·rw [e];omega
   ·exact ih i ∅
theorem aE9 {X:Cx}(hc:autoParam (X.calm=true) Rq0._auto_1):dL X (.builtin "min") (fun xs H Q=>∃ (p:Addr) (ns:List Int),xs=[.ref p]/\bK X.K H p (ns.map V.int)/\ns≠[]/\∀ i∈ns,(∀ n∈ns,i<=n)->Q (.int i) H):=by
 intro pins s σ H xs us Q I r h;obtain ⟨p,ns,rfl,hq,hne,q⟩:=h;obtain ⟨u,rfl,ru⟩:=gT r
 cases ru
 obtain ⟨its,rv,pl,hz⟩:=I.list hq;have it:=pl.isList;have lp:p < s.heap.objs.size:=by
  obtain ⟨o,e,_⟩:=it;exact bi e
 have hl:=rv.length;rw [ae] at hl;have val:∀ i v,its.toArray[i]?=some v->∃ t,v=Value.int (ns.getD i 0) t:=fun i v hv=>by
  have hi:its[i]?=some v:=by simpa using hv
  have hb:i < ns.length:=by
   have:=(bw.mp hi).1;omega
  obtain ⟨u,hu,ru⟩:=rv.get (i:=i) (x:=V.int ns[i]) (by rw [cp,ak hb];rfl);rw [hi] at hu
  cases hu
  obtain ⟨t,e⟩:=ru;exact ⟨t,by rw [e];simp [List.getD,hb]⟩
 have hpos:0 < its.toArray.size:=by
  rw [cv, <- hl]
  cases ns with
  |nil=>exact absurd rfl hne
  |cons _ _=>simp
 refine call_min_walk (im it ⟨s.heap.objs.size,_,_,_,_,_,_,rfl,aAs (A:=X.A.in1) (I.ok.hd hc) s.heap.objs.size p (cw lp) its.toArray,⟨⟨_,aq _ rfl,rfl,rfl⟩,it.at fun o e=>af _ e⟩,?_,hpos,CmpOf.ints_lt (fun i=>ns.getD i 0) val,?_⟩)
 ·intro b hb;rw [ip];rcases bo.mp hb with z | z
  ·rw [z];exact dy _
  ·have z:b=p:=by simpa using z
   rw [z];exact on lp
 ·intro v h' tk hv hk;have kept:∀ b o,s.heap.get? b=some o->h'.get? b=some o:=fun b o e=>hk b o (by
   intro z;have z:b=s.heap.objs.size:=by simpa using z
   exact absurd (bi e) (by rw [z];exact ff _)) (af _ e)
  have hv2:its.toArray[argBest (fun i j=>decide (ns.getD i 0 < ns.getD j 0)) (its.toArray.size - 1)]?=some v:=hv;have hin:argBest (fun i j=>decide (ns.getD i 0 < ns.getD j 0)) (its.toArray.size - 1) < ns.length:=by
   have:its[argBest (fun i j=>decide (ns.getD i 0 < ns.getD j 0)) (its.toArray.size - 1)]?=some v:=by simpa using hv2
   have:=(bw.mp this).1;omega
  obtain ⟨t,rfl⟩:=val _ _ hv;exists .int _,H,I.kept kept,⟨t,rfl⟩,q _ ?_ fun n hn=>?_
  ·rw [xk,ak hin];exact jz hin
  obtain ⟨i,hi,e⟩:=ki.mp hn;have:=zZ (fun i=>ns.getD i 0) (its.toArray.size - 1) i (by rw [cv, <- hl];omega);rw [show ns.getD i 0=n by simp [List.getD,hi,e]] at this;exact this
theorem bV {α: Type}{n:Nat}{us:List α}(h:us.length=n+1):∃ u r,us=u :: r/\r.length=n:=by
 cases us with
 |nil=>cases h
 |cons u r=>exact ⟨u,r,rfl,Nat.succ.inj h⟩
section
variable {K:W.Frag}{x qual:Str}{st:Stmt}{f:Addr}{fd:FuncData}{p1 p2 p3 p4 p5:Str}
theorem vD.b1 (F:vD K x qual st f fd) (h:∀ (kV doc pm:Value) (an:Option Addr) (cdv ct u1:Value),bindArgs (W.fnOf x qual (cS st) (cG st) (bA st) .none kV doc pm an cdv ct) ⟨[u1],[]⟩=pure [(p1,u1)]):hV K fd [p1] []:=by
 refine F.binds fun kV doc pm an cdv ct us h0=>?_
 obtain ⟨u1,r1,rfl,h1⟩:=bV (n:=0) h0
 cases jk.mp h1
 exact h kV doc pm an cdv ct u1
theorem vD.b2 (F:vD K x qual st f fd) (h:∀ (kV doc pm:Value) (an:Option Addr) (cdv ct u1 u2:Value),bindArgs (W.fnOf x qual (cS st) (cG st) (bA st) .none kV doc pm an cdv ct) ⟨[u1,u2],[]⟩=pure [(p1,u1),(p2,u2)]):hV K fd [p1,p2] []:=by
 refine F.binds fun kV doc pm an cdv ct us h0=>?_
 obtain ⟨u1,r1,rfl,h1⟩:=bV (n:=1) h0;obtain ⟨u2,r2,rfl,h2⟩:=bV (n:=0) h1
 cases jk.mp h2
 exact h kV doc pm an cdv ct u1 u2
theorem vD.b3 (F:vD K x qual st f fd) (h:∀ (kV doc pm:Value) (an:Option Addr) (cdv ct u1 u2 u3:Value),bindArgs (W.fnOf x qual (cS st) (cG st) (bA st) .none kV doc pm an cdv ct) ⟨[u1,u2,u3],[]⟩=pure [(p1,u1),(p2,u2),(p3,u3)]):hV K fd [p1,p2,p3] []:=by
 refine F.binds fun kV doc pm an cdv ct us h0=>?_
 obtain ⟨u1,r1,rfl,h1⟩:=bV (n:=2) h0;obtain ⟨u2,r2,rfl,h2⟩:=bV (n:=1) h1;obtain ⟨u3,r3,rfl,h3⟩:=bV (n:=0) h2
 cases jk.mp h3
 exact h kV doc pm an cdv ct u1 u2 u3
theorem vD.b4 (F:vD K x qual st f fd) (h:∀ (kV doc pm:Value) (an:Option Addr) (cdv ct u1 u2 u3 u4:Value),bindArgs (W.fnOf x qual (cS st) (cG st) (bA st) .none kV doc pm an cdv ct) ⟨[u1,u2,u3,u4],[]⟩=pure [(p1,u1),(p2,u2),(p3,u3),(p4,u4)]):hV K fd [p1,p2,p3,p4] []:=by
 refine F.binds fun kV doc pm an cdv ct us h0=>?_
 obtain ⟨u1,r1,rfl,h1⟩:=bV (n:=3) h0;obtain ⟨u2,r2,rfl,h2⟩:=bV (n:=2) h1;obtain ⟨u3,r3,rfl,h3⟩:=bV (n:=1) h2;obtain ⟨u4,r4,rfl,h4⟩:=bV (n:=0) h3
 cases jk.mp h4
 exact h kV doc pm an cdv ct u1 u2 u3 u4
theorem vD.b5 (F:vD K x qual st f fd) (h:∀ (kV doc pm:Value) (an:Option Addr) (cdv ct u1 u2 u3 u4 u5:Value),bindArgs (W.fnOf x qual (cS st) (cG st) (bA st) .none kV doc pm an cdv ct) ⟨[u1,u2,u3,u4,u5],[]⟩=pure [(p1,u1),(p2,u2),(p3,u3),(p4,u4),(p5,u5)]):hV K fd [p1,p2,p3,p4,p5] []:=by
 refine F.binds fun kV doc pm an cdv ct us h0=>?_
 obtain ⟨u1,r1,rfl,h1⟩:=bV (n:=4) h0;obtain ⟨u2,r2,rfl,h2⟩:=bV (n:=3) h1;obtain ⟨u3,r3,rfl,h3⟩:=bV (n:=2) h2;obtain ⟨u4,r4,rfl,h4⟩:=bV (n:=1) h3;obtain ⟨u5,r5,rfl,h5⟩:=bV (n:=0) h4
 cases jk.mp h5
 exact h kV doc pm an cdv ct u1 u2 u3 u4 u5
end
section
variable {K:W.Frag}{x qual:Str}{st:Stmt}{f:Addr}{fd:FuncData}{p1 p2 p3 p4 p5 p6:Str}
theorem vD.b6 (F:vD K x qual st f fd) (h:∀ (kV doc pm:Value) (an:Option Addr) (cdv ct u1 u2 u3 u4 u5 u6:Value),bindArgs (W.fnOf x qual (cS st) (cG st) (bA st) .none kV doc pm an cdv ct) ⟨[u1,u2,u3,u4,u5,u6],[]⟩=pure [(p1,u1),(p2,u2),(p3,u3),(p4,u4),(p5,u5),(p6,u6)]):hV K fd [p1,p2,p3,p4,p5,p6] []:=by
 refine F.binds fun kV doc pm an cdv ct us h0=>?_
 obtain ⟨u1,r1,rfl,h1⟩:=bV (n:=5) h0;obtain ⟨u2,r2,rfl,h2⟩:=bV (n:=4) h1;obtain ⟨u3,r3,rfl,h3⟩:=bV (n:=3) h2;obtain ⟨u4,r4,rfl,h4⟩:=bV (n:=2) h3;obtain ⟨u5,r5,rfl,h5⟩:=bV (n:=1) h4;obtain ⟨u6,r6,rfl,h6⟩:=bV (n:=0) h5
 cases jk.mp h6
 exact h kV doc pm an cdv ct u1 u2 u3 u4 u5 u6
end
section
variable {P:Program}{w:World}{K:W.Frag}{mg:Str->Option Value}{base:Heap}
def Cl (P:Program) (w:World) (K:W.Frag) (mg:Str->Option Value) (base:Heap) (n:Nat) (sp:Sp) (x:Str):Prop:=∃ f d ps,nK P w K mg base CX0 n f d ps sp/\hV K d ps []/\W.keepIn K (.ref f)=true/\mg x=some (.ref f)
def gX (P:Program) (w:World) (K:W.Frag) (mg:Str->Option Value) (base:Heap) (x q:Str) (st:Stmt) (n:Nat) (ps:List Str) (sp:Sp):Prop:=∀ {f:Addr}{d:FuncData},vD K x q st f d->nK P w K mg base CX0 n f d ps sp
theorem jK {x q:Str}{st:Stmt}{k:Nat}{ps:List Str}{sp:Sp}(N:List Str)
  (hb:∀ {f:Addr}{cdv:Value}{A:Around}{outer:List Env}{s:Shared}{vs:List V}{E:XK}(H:Hp) (Q:VK),N.Nodup->bU k (A.deeper (envOfC q (bA st) s.heap.objs.size f cdv))->sp vs H Q E ->
   ∃ t,PSs (aH7 CX0 P w K mg base N q (bA st) f cdv A outer s H E).nox (cG st) t/\t { nx:=fun _ H'=>Q .non H',rt:=Q } (oF N vs) H)
  (len:∀ vs H Q E,sp vs H Q E->vs.length=ps.length:=by intro _ _ _ _ h;(repeat obtain ⟨_,h⟩:=h);subst_vars;rfl)
  (S:mK N ps (bA st):=by refine ⟨rfl,rfl,rfl,?_,rfl,?_,?_⟩ <;> decide +kernel):gX P w K mg base x q st (k+1) ps sp :=
 fun F=>F.ok S len fun _ _ _ _ H _ Q _ hr h=>hb H Q S.nd hr h
def DefAt (K:W.Frag) (x q:Str) (st:Stmt) (f:Addr):Prop:=∃ (oc:Value) (od:Option Addr) (kV dc pm:Value) (an:Option Addr) (cd ct:Value) (sl:Array (Option Value)),K.lookup f=some ⟨oc,od,.func (W.fnOf x q (cS st) (cG st) (bA st) .none kV dc pm an cd ct),sl⟩/\W.codeIn K cd q=true/\W.keepIn K (.ref f)=true
def TopAt (K:W.Frag) (x:Str) (st:Stmt):Prop:=∃ f,W.nsIn K mainGlobals x=some (some (.ref f))/\DefAt K x x st f
theorem DefAt.of {x q:Str}{st:Stmt}{f:Addr}{oc:Value}{od:Option Addr}{kV dc pm:Value}{an:Option Addr}{cd ct:Value}{sl:Array (Option Value)}(l:K.lookup f=some ⟨oc,od,.func (W.fnOf x q (cS st) (cG st) (bA st) .none kV dc pm an cd ct),sl⟩) (c:W.codeIn K cd q=true) (k:W.keepIn K (.ref f)=true):DefAt K x q st f:=⟨_,_,_,_,_,_,_,_,_,l,c,k⟩
theorem TopAt.of {x:Str}{st:Stmt}{f:Addr}{oc:Value}{od:Option Addr}{kV dc pm:Value}{an:Option Addr}{cd ct:Value}{sl:Array (Option Value)}(a:W.nsIn K mainGlobals x=some (some (.ref f))) (l:K.lookup f=some ⟨oc,od,.func (W.fnOf x x (cS st) (cG st) (bA st) .none kV dc pm an cd ct),sl⟩) (c:W.codeIn K cd x=true) (k:W.keepIn K (.ref f)=true):TopAt K x st:=⟨_,a,.of l c k⟩
theorem DefAt.fn {x q:Str}{st:Stmt}{f:Addr}(h:DefAt K x q st f):∃ d,vD K x q st f d:=by
 obtain ⟨_,_,_,_,_,_,_,_,_,l,c,k⟩:=h
 exact ⟨_,aX3 l c k⟩
structure Zx (P:Program) (w:World) (K:W.Frag) (mg:Str->Option Value) (base:Heap):Prop where
 ns:∀ x u,W.nsIn K mainGlobals x=some (some u)->mg x=some u
 no:∀ x,W.nsIn K mainGlobals x=some none->mg x=none
theorem Zx.of {h:Heap}(X:K.In h) (G:h.Ns mainGlobals mg):Zx P w K mg base:=⟨fun _ _ e=>W.mg_of X G e,fun _ e=>W.mg_none_of X G e⟩
variable {x p1 p2 p3 p4 p5 p6:Str}{st:Stmt}{n:Nat}{sp:Sp}
theorem Zx.cl (Z:Zx P w K mg base) (t:TopAt K x st) {ps:List Str}(ok:gX P w K mg base x x st n ps sp) (b:∀ {f d},vD K x x st f d->hV K d ps []):Cl P w K mg base n sp x :=by
 obtain ⟨_,a,t⟩:=t;obtain ⟨_,F⟩:=t.fn;exact ⟨_,_,_,ok F,b F,F.kp,Z.ns _ _ a⟩
theorem Zx.c1 (Z:Zx P w K mg base) (t:TopAt K x st) (ok:gX P w K mg base x x st n [p1] sp) (h:autoParam (∀ (kV doc pm:Value) (an:Option Addr) (cdv ct u1:Value),bindArgs (W.fnOf x x (cS st) (cG st) (bA st) .none kV doc pm an cdv ct) ⟨[u1],[]⟩=pure [(p1,u1)]) Rq3._auto_1):Cl P w K mg base n sp x:=Z.cl t ok fun F=>F.b1 h
theorem Zx.c2 (Z:Zx P w K mg base) (t:TopAt K x st) (ok:gX P w K mg base x x st n [p1,p2] sp) (h:autoParam (∀ (kV doc pm:Value) (an:Option Addr) (cdv ct u1 u2:Value),bindArgs (W.fnOf x x (cS st) (cG st) (bA st) .none kV doc pm an cdv ct) ⟨[u1,u2],[]⟩=pure [(p1,u1),(p2,u2)]) Rq3._auto_1):Cl P w K mg base n sp x:=Z.cl t ok fun F=>F.b2 h
theorem Zx.c3 (Z:Zx P w K mg base) (t:TopAt K x st) (ok:gX P w K mg base x x st n [p1,p2,p3] sp) (h:autoParam (∀ (kV doc pm:Value) (an:Option Addr) (cdv ct u1 u2 u3:Value),bindArgs (W.fnOf x x (cS st) (cG st) (bA st) .none kV doc pm an cdv ct) ⟨[u1,u2,u3],[]⟩=pure [(p1,u1),(p2,u2),(p3,u3)]) Rq3._auto_1):Cl P w K mg base n sp x:=Z.cl t ok fun F=>F.b3 h
theorem Zx.c4 (Z:Zx P w K mg base) (t:TopAt K x st) (ok:gX P w K mg base x x st n [p1,p2,p3,p4] sp) (h:autoParam (∀ (kV doc pm:Value) (an:Option Addr) (cdv ct u1 u2 u3 u4:Value),bindArgs (W.fnOf x x (cS st) (cG st) (bA st) .none kV doc pm an cdv ct) ⟨[u1,u2,u3,u4],[]⟩=pure [(p1,u1),(p2,u2),(p3,u3),(p4,u4)]) Rq3._auto_1):Cl P w K mg base n sp x:=Z.cl t ok fun F=>F.b4 h
theorem Zx.c5 (Z:Zx P w K mg base) (t:TopAt K x st) (ok:gX P w K mg base x x st n [p1,p2,p3,p4,p5] sp) (h:autoParam (∀ (kV doc pm:Value) (an:Option Addr) (cdv ct u1 u2 u3 u4 u5:Value),bindArgs (W.fnOf x x (cS st) (cG st) (bA st) .none kV doc pm an cdv ct) ⟨[u1,u2,u3,u4,u5],[]⟩=pure [(p1,u1),(p2,u2),(p3,u3),(p4,u4),(p5,u5)]) Rq3._auto_1):Cl P w K mg base n sp x:=Z.cl t ok fun F=>F.b5 h
theorem Zx.c6 (Z:Zx P w K mg base) (t:TopAt K x st) (ok:gX P w K mg base x x st n [p1,p2,p3,p4,p5,p6] sp) (h:autoParam (∀ (kV doc pm:Value) (an:Option Addr) (cdv ct u1 u2 u3 u4 u5 u6:Value),bindArgs (W.fnOf x x (cS st) (cG st) (bA st) .none kV doc pm an cdv ct) ⟨[u1,u2,u3,u4,u5,u6],[]⟩=pure [(p1,u1),(p2,u2),(p3,u3),(p4,u4),(p5,u5),(p6,u6)]) Rq3._auto_1):Cl P w K mg base n sp x:=Z.cl t ok fun F=>F.b6 h
theorem okn {q:Str}{k:Nat}{ps:List Str}:gX P w K mg base x q st k ps (fun _ _ _ _=>False):=fun _=>⟨fun _ _ _ _ h=>h.elim,fun _ _ _ _ _ _ _ _ _ _ _ _ _ h=>h.elim⟩
end
section
variable {X:Cx}{x:Str}{p pos pos':Pos}{e:Expr}{es:List Expr}{t:TA}{te:TE}
theorem cP {k:Nat}{sp:Sp}(C:Cl X.prog X.w X.K X.mg X.base k sp x) {n:Nat}(hr:bU n X.A) (ha:PA X (e :: es) t) (hn:autoParam (k<=n) Rq9._auto_1) (hg:autoParam (Gl X x) Rq0._auto_1) (hdb:autoParam ((x == ("__debug__": Str))=false) Rq1._auto_1) (he:autoParam (starEach (e :: es) X.env=(false,eval e X.env) :: starEach es X.env) Rq0._auto_1)
  (hpl:autoParam ((backTo pos (starEach es X.env)).any (·.1)=false) Rq0._auto_1):PE X (.Call (.Name x p) (e :: es) [] pos) (bM3 sp [] E0 t):=by obtain ⟨_,_,_,g,b,k,m⟩:=C;exact bG3 g (hr.mono hn) hg m k b .nil bN3 ha hdb he hpl
theorem gF (i:Nat) {rest:List Stmt}{u:TS}(hN:X.N.Nodup) (he:PE X e te) (h2:PSs X rest u) (hi:autoParam (X.N[i]?=some x) Rq0._auto_1) (hx:autoParam (Loc X.env.scope x) Rq6._auto_1) (hs:autoParam (swapsWith e (some (.Name x pos')) pos.line X.env=pure false) Rq0._auto_1)
  (hf:autoParam (X.fn x=true\/X.env.scope.names.lookup x=some .local) Rq2._auto_1):PSs X (.Assign [.Name x pos'] e pos :: rest) (bS7 (bC4 te (wD i)) u):=aI (mZ hN hi hx he hs hf) h2
theorem psz (i:Nat) (hN:X.N.Nodup) (he:PE X e te) (hi:autoParam (X.N[i]?=some x) Rq0._auto_1) (hx:autoParam (Loc X.env.scope x) Rq6._auto_1) (hs:autoParam (swapsWith e (some (.Name x pos')) pos.line X.env=pure false) Rq0._auto_1)
  (hf:autoParam (X.fn x=true\/X.env.scope.names.lookup x=some .local) Rq2._auto_1):PS X (.Assign [.Name x pos'] e pos) (bC4 te (wD i)):=mZ hN hi hx he hs hf
theorem cW (i:Nat) (hN:X.N.Nodup:=by dsimp only [cJ];decide +kernel) (hi:autoParam (X.N[i]?=some x) Rq0._auto_1) (hx:autoParam (Loc X.env.scope x) Rq6._auto_1) (hf:autoParam (X.fn x=true\/X.env.scope.names.lookup x=some .local) Rq2._auto_1):PG X (.Name x pos) (wD i):=rR hN hi hx hf
theorem wK {tg iter:Expr}{body:List Stmt}{wi:TI}{g:TG}{tb:TS}(hi:PI X tg iter wi) (hg:PG X tg g) (hb:PSs X body tb) (hp:PassesOwn (model X.prog X.w) X.A X.env X.xe:=by exact km) (hc:autoParam (X.calm=true) Rq0._auto_1)
  (hs:autoParam (∀ x,foldedSetIterable iter X.env x=pure x) Rq4._auto_1):PS X (.For tg iter body [] pos) (cG0 wi g tb):=aY5 hp hc hi hg hb hs
variable {id T:String}{r:List V->Hp->VK->Prop}
theorem pP (hc:dL X (.builtin id) r) (hm:X.mg x=none) (hv:bootBuiltins x=some (.builtin id)) (ha:PA X (e :: es) t) (hg:autoParam (Gl X x) Rq0._auto_1) (hn:autoParam (x≠"__name__") Rq1._auto_1) (hdb:autoParam ((x == ("__debug__": Str))=false) Rq1._auto_1)
  (he:autoParam (starEach (e :: es) X.env=(false,eval e X.env) :: starEach es X.env) Rq0._auto_1) (hpl:autoParam ((backTo pos (starEach es X.env)).any (·.1)=false) Rq0._auto_1):PE X (.Call (.Name x p) (e :: es) [] pos) (tCB r t):=sP hc hg hm hv ha hn hdb he hpl
theorem vH (hc:dL X (.type T) r) (hm:X.mg x=none) (hv:bootBuiltins x=some (.type T)) (ha:PA X (e :: es) t) (hg:autoParam (Gl X x) Rq0._auto_1) (hn:autoParam (x≠"__name__") Rq1._auto_1) (hdb:autoParam ((x == ("__debug__": Str))=false) Rq1._auto_1)
  (he:autoParam (starEach (e :: es) X.env=(false,eval e X.env) :: starEach es X.env) Rq0._auto_1) (hpl:autoParam ((backTo pos (starEach es X.env)).any (·.1)=false) Rq0._auto_1):PE X (.Call (.Name x p) (e :: es) [] pos) (tCB r t):=aO2 hc hg hm hv ha hn hdb he hpl
variable {a b:Expr}{ta tb:TE}
theorem cQ {r:R2}(hr:IxR X r) (ha:PE X a ta) (hb:PE X b tb) (hs:autoParam (aM8 b) Rq5._auto_1):PE X (.Subscript a b pos) (tOp r ta tb):=cC4 hr ha hb hs
theorem iL {op:CmpOp}{r:R2}(ho:jX X (compareOp op) r) (ha:PE X a ta) (hb:PE X b tb) (hm:autoParam (behindInMarks op b=false) Rq7._auto_1):PT X (.Compare a [op] [b] pos) (bN1 (tOp r ta tb)):=oU ho ha hb hm
theorem pec {op:CmpOp}{r:R2}(ho:jX X (compareOp op) r) (ha:PE X a ta) (hb:PE X b tb) (hm:autoParam (behindInMarks op b=false) Rq7._auto_1):PE X (.Compare a [op] [b] pos) (tOp r ta tb):=bI8 ho ha hb hm
theorem pdg (hu:X.A.units+1 < cLine) (ho:PE X a ta) (hi:PE X b tb) (hs:autoParam (aY2 b) Rq5._auto_1):PE X (.Subscript a b pos) (bN5 ta tb):=iW hu ho hi hs
theorem pdp {tv:TE}(hu:X.A.units+1 < cLine) (ho:PE X a ta) (hi:PE X b tb) (hv:PE X e tv) (hs:autoParam (swapsWith e (some (.Subscript a b pos')) pos.line X.env=pure false) Rq0._auto_1):PS X (.Assign [.Subscript a b pos'] e pos) (bM4 ta tb tv):=rN hu ho hi hv hs
theorem aS (ha:PE X a ta) (h:autoParam (starEach [a] X.env=[(false,eval a X.env)]) Rq0._auto_1):PA X [a] (bN7 ta tNil):=aC ha gO h
end
end L2
namespace Mine
open PySem L2
theorem bH2 {b:Bool}{H:Hp}{d:Addr}{ob:Obj}{l:List (An×V)}{v:V}{a:An}(h:H d=some (.frz ob (dB b l))) (ok:∀ e∈l,VA b e.1) (hv:cV b H v a):fJ H d v (bH l a):=by
 cases b with
 |true =>
  obtain ⟨p,rfl,hp⟩:=hv;have:=fJ.ft (k:=a.map Sum.inl) h (show H p=some (.tup ((a.map Sum.inl:List Key).map kV)) by rw [pO];exact hp)
  rwa [iJ (f:=fun a:An=>(a.map Sum.inl:List Key)) (fun e _ q=>nX q)] at this
 |false =>
  obtain ⟨n,rfl,rfl⟩:=hv;have:fJ H d (.int n) (bH (l.map fun e=>((Sum.inl (e.1.headD 0):Key),e.2)) (Sum.inl n)):= .inl ⟨_,Sum.inl n,.inr ⟨ob,h⟩,rfl,rfl⟩
  rwa [show (Sum.inl n:Key)=Sum.inl (([n]:An).headD 0) from rfl,iJ (f:=fun a:An=>(Sum.inl (a.headD 0):Key)) (k:=[n]) (fun e he q=>nL ((ok e he).resolve_left (by decide)) ⟨n,rfl⟩ q)] at this
theorem aL1 {P:Program}{w:World}{b:Bool}{H:Hp}{d:Addr}{l:List (An×V)}(h:H d=some (dB b l)):aX1 P w H d (l.map (·.2)):=by
 cases b with
 |true=>exact .inr (.inl ⟨_,.inl h,by rw [cz];rfl⟩)
 |false=>exact .inl ⟨_,.inl h,by rw [cz];rfl⟩
def enc (b:Bool) (a:An):NKey:=if b then .inr (a.map Sum.inl) else .inl (Sum.inl (a.headD 0))
theorem xN {b:Bool}{x y:An}(hx:VA b x) (hy:VA b y) (h:enc b x=enc b y):x=y:=by
 cases b with
 |true=>exact nX (aBy h)
 |false=>exact nL (hx.resolve_left (by decide)) (hy.resolve_left (by decide)) (wu h)
theorem cV.sub {b:Bool}{H:Hp}{v:V}{a:An}(h:cV b H v a):aH5 H (enc b a) v:=by
 cases b with
 |true =>
  obtain ⟨p,rfl,hp⟩:=h;exact ⟨p,rfl,by rw [pO];exact hp⟩
 |false =>
  obtain ⟨n,rfl,rfl⟩:=h;rfl
abbrev Pr2:=An×An
def iT (b:Bool) (e:Pr2):List NKey:=[enc b e.1,enc b e.2]
def VP (b:Bool) (e:Pr2):Prop:=VA b e.1/\VA b e.2
theorem lU {b:Bool}{x y:Pr2}(hx:VP b x) (hy:VP b y) (h:iT b x=iT b y):x=y:=by
 unfold iT at h;injection h with h1 h2
 injection h2 with h2 _
 exact wo (xN hx.1 hy.1 h1) (xN hx.2 hy.2 h2)
def jJ (b:Bool) (H:Hp) (v:V) (e:Pr2):Prop:=∃ t u w,v= .ref t/\H t=some (.tup [u,w])/\cV b H u e.1/\cV b H w e.2
theorem jJ.ts {b:Bool}{H H':Hp}{v:V}{e:Pr2}(t:TS H H') (h:jJ b H v e):jJ b H' v e:=by obtain ⟨a,u,w,e1,e2,e3,e4⟩:=h;exact ⟨a,u,w,e1,t _ _ e2,e3.ts t,e4.ts t⟩
theorem jJ.va {b:Bool}{H:Hp}{v:V}{e:Pr2}(h:jJ b H v e):VP b e:=by obtain ⟨_,_,_,_,_,e3,e4⟩:=h;exact ⟨e3.va,e4.va⟩
theorem sX {b:Bool}{H:Hp}{t:Addr}{u w:V}{e:Pr2}(h:H t=some (.tup [u,w])) (h1:cV b H u e.1) (h2:cV b H w e.2):qY H (iT b e) t:=⟨[u,w],h,.cons h1.sub (.cons h2.sub .nil)⟩
def kX (b:Bool):Str:=if b then "one" else "other"
def sT (b:Bool) (z:Pl An):List NKey:=[.inl (.inr (kX z.1)),enc b z.2]
theorem uP {b:Bool}{x y:Pl An}(hx:VA b x.2) (hy:VA b y.2) (h:sT b x=sT b y):x=y:=by
 unfold sT at h;injection h with h1 h2
 injection h2 with h2 _
 have e1:kX x.1=kX y.1:=aBy (wu h1);have ne:kX true≠kX false:=by decide +kernel
 refine wo ?_ (xN hx hy h2)
 revert e1
 cases x.1 <;> cases y.1 <;> intro e1
 ·rfl
 ·exact absurd e1.symm ne
 ·exact absurd e1 ne
 ·rfl
def PlT (b:Bool) (H:Hp) (t:Addr) (z:Pl An):Prop:=∃ u,H t=some (.tup [.str (kX z.1),u])/\cV b H u z.2
def PlE (b:Bool) (H:Hp) (v:V) (z:Pl An):Prop:=∃ t,v= .ref t/\PlT b H t z
theorem PlT.ts {b:Bool}{H H':Hp}{t:Addr}{z:Pl An}(s:TS H H') (h:PlT b H t z):PlT b H' t z:=by obtain ⟨u,e1,e2⟩:=h;exact ⟨u,s _ _ e1,e2.ts s⟩
theorem PlE.ts {b:Bool}{H H':Hp}{v:V}{z:Pl An}(s:TS H H') (h:PlE b H v z):PlE b H' v z:=by obtain ⟨t,e,h⟩:=h;exact ⟨t,e,h.ts s⟩
theorem PlT.nat {b:Bool}{H:Hp}{t:Addr}{z:Pl An}(h:PlT b H t z):qY H (sT b z) t:=by obtain ⟨u,e1,e2⟩:=h;exact ⟨[.str (kX z.1),u],e1,.cons rfl (.cons e2.sub .nil)⟩
theorem PlT.va {b:Bool}{H:Hp}{t:Addr}{z:Pl An}(h:PlT b H t z):VA b z.2:=by obtain ⟨_,_,e2⟩:=h;exact e2.va
def lcI (b d:Int):Int:=b * d / gI b d
theorem bR5 {b d:Int}(hb:0<=b) (hd:0<=d):lcI b d=(Nat.lcm b.toNat d.toNat:Nat):=by
 obtain ⟨x,rfl⟩:=fj hb;obtain ⟨y,rfl⟩:=fj hd;unfold lcI gI Nat.lcm;rw [dw,dw, <- vm,Int.natCast_ediv]
theorem bX8 {b d M:Int}(hb:1<=b) (hd:1<=d):1<=lcI b d/\b ∣ lcI b d/\d ∣ lcI b d/\(b ∣ M->d ∣ M->lcI b d ∣ M):=by
 have e:=bR5 (show 0<=b by omega) (show 0<=d by omega);obtain ⟨x,rfl⟩:=fj (show 0<=b by omega);obtain ⟨y,rfl⟩:=fj (show 0<=d by omega);rw [dw,dw] at e;rw [e];have p:0 < Nat.lcm x y:=Nat.lcm_pos ∅ ∅;exists ∅,iw.mpr (Nat.dvd_lcm_left x y),iw.mpr (Nat.dvd_lcm_right x y),fun h1 h2=>?_;exact aAk.mp (iw.mpr (Nat.lcm_dvd (iw.mp (aAk.mpr h1)) (iw.mp (aAk.mpr h2))))
def qX (fs:List (Int×Int)):Int:=fs.foldl (fun b u=>lcI b u.2) 1
theorem wB (fs:List (Int×Int)) (u:Int×Int):qX (fs++[u])=lcI (qX fs) u.2:=by unfold qX;rw [ot];rfl
theorem pR {fs:List (Int×Int)}{M:Int}(h1:∀ u∈fs,1<=u.2) (hM:∀ u∈fs,u.2 ∣ M):∀ i,1<=qX (fs.take i)/\(∀ u∈fs.take i,u.2 ∣ qX (fs.take i))/\qX (fs.take i) ∣ M
 |0=>⟨gi 1,fun _ h=>absurd h cu,Int.one_dvd M⟩
 |i+1=>by
  obtain ⟨a,b,c⟩:=pR h1 hM i
  cases e:fs[i]? with
  |none =>
   have l:=rn.mp e;rw [jx (show fs.length<=i+1 by omega)];rw [jx l] at a b c;exact ⟨a,b,c⟩
  |some u =>
   have hu:=bq e;rw [aO e,wB];obtain ⟨p1,p2,p3,p4⟩:=bX8 (M:=M) a (h1 u hu);exists p1,fun v hv=>?_,p4 c (hM u hu);rcases cj.mp hv with q | q
   ·exact qw (b v q) p2
   ·rw [ck.mp q];exact p3
theorem uD {n:Nat}{b M:Int}(h:b ∣ M) (h0:1<=M) (hM:hU n M):hU n b:=by
 unfold hU at *;exact db (Nat.le_of_dvd ∅ (Int.natAbs_dvd_natAbs.mpr h)) hM
def FrE (H:Hp) (v:V) (u:Int×Int):Prop:=∃ q,v= .ref q/\bP H q u.1 u.2
def bO1 (K:W.Frag):Sp:=fun vs H Q _=>∃ (p:Addr) (ws:List V) (fs:List (Int×Int)) (M:Int),vs=[.ref p]/\bK K H p ws/\bC (FrE H) ws fs/\(∀ u∈fs,1<=u.2)/\(∀ u∈fs,u.2 ∣ M)/\1<=M/\hU 2000 M/\Q (.int (qX fs)) H
def iD (u:Int×Int) (b:Int):Int:=u.1 * (b / u.2)
def spAmt:Sp:=fun vs H Q _=>∃ (p:Addr) (u:Int×Int) (b:Int),vs=[.ref p,.int b]/\bP H p u.1 u.2/\1<=u.2/\hU 2000 u.1/\hU 2000 u.2/\0<=b/\hU 2000 b/\Q (.int (iD u b)) H
theorem bE0 {n:Nat}{b d:Int}(hb:hU n b) (h0:0<=b) (hd:1<=d):hU n (b / d):=by
 have l:=yh d h0;have g:=rh h0 (show 0<=d by omega);unfold hU at *;omega
theorem rT {n:Nat}{a:Int}{m:Nat}(h0:0<=a) (h:a < 2 ^ m) (hm:m<=n):hU n a:=by
 unfold hU;have:a.natAbs < 2 ^ m:=by
  have e:((2 ^ m:Nat):Int)=(2:Int) ^ m:=by simp
  omega
 exact cr this (aAx (by decide) hm)
section
variable {α: Type} [DecidableEq α]
theorem zS:∀ {as:List α}{i:Nat}{e:α×α},(bY as)[i]?=some e->as[2 * i+1]?=some e.1/\as[2 * i]?=some e.2
 |[],i,e,h=>by simp [bY] at h
 |[_],i,e,h=>by simp [bY] at h
 |y :: x :: r,0,e,h=>by
  have h:some (x,y)=some e:=h
  cases h
  exact ⟨rfl,rfl⟩
 |y :: x :: r,i+1,e,h=>zS (as:=r) (i:=i) h
theorem wO:∀ (as:List α),(bY as).length=as.length / 2
 |[]=>by simp [bY]
 |[_]=>by simp [bY]
 |y :: x :: r=>by
  have:=wO r;show (bY r).length+1=(r.length+1+1) / 2;omega
theorem aK8:∀ {as:List α}{i:Nat}{e:α×α},(bS as)[i]?=some e->as[2 * i+1]?=some e.1/\as[2 * i+2]?=some e.2
 |[],i,e,h=>by simp [bS] at h
 |[_],i,e,h=>by simp [bS] at h
 |[_,_],i,e,h=>by simp [bS] at h
 |y :: x :: u :: r,0,e,h=>by
  have h:some (x,u)=some e:=h
  cases h
  exact ⟨rfl,rfl⟩
 |y :: x :: u :: r,i+1,e,h=>aK8 (as:=u :: r) (i:=i) h
theorem aB6:∀ (as:List α),(bS as).length=(as.length - 1) / 2
 |[]=>by simp [bS]
 |[_]=>by simp [bS]
 |[_,_]=>by simp [bS]
 |y :: x :: u :: r=>by
  have:=aB6 (u :: r);have e:(u :: r).length=r.length+1:=rfl;rw [e] at this;show (bS (u :: r)).length+1=(r.length+1+1+1 - 1) / 2;omega
theorem kU.even {prs:List (α×α)}{S:eW α}{ks:List α}{zs:List (Pl α)}(p:kU prs S ks zs):∀ z r,zs=z :: r->(z.1=false->zs.length % 2=0)/\(z.1=true->zs.length % 2=1):=by
 induction p with
 |@root x _ _ =>
  intro z r e
  cases e
  exact ⟨fun h=>(by cases h),fun _=>rfl⟩
 |@step z c r _ hn _ ih =>
  intro z' r' e
  cases e
  obtain ⟨i1,i2⟩:=ih c r rfl;have sd:=gJ hn;rw [dq];exists fun h=>?_,fun h=>?_
  ·rw [h] at sd;have:=i2 (by revert sd;cases c.1 <;> simp);omega
  ·rw [h] at sd;have:=i1 (by revert sd;cases c.1 <;> simp);omega
theorem kU.inP {prs:List (α×α)}{S:eW α}{ks qs:List α}(hp:∀ e∈prs,e.1∈ks/\e.2∈qs) {zs:List (Pl α)}(p:kU prs S ks zs):∀ c∈zs,c∈fM ks qs:=by
 induction p with
 |@root x h _ =>
  intro c hc;rw [ck.mp hc];exact cj.mpr (.inl (am.mpr ⟨x,h,rfl⟩))
 |@step z c r _ hn _ ih =>
  intro u hu;rcases bo.mp hu with e | e
  ·subst e;obtain ⟨bc,ac⟩:=c;obtain ⟨bz,az⟩:=u;have sd:bz= !bc:=gJ hn;subst sd
   cases bc
   ·exact cj.mpr (.inl (am.mpr ⟨az,(hp _ (pB hn).1).1,rfl⟩))
   ·exact cj.mpr (.inr (am.mpr ⟨az,(hp _ (jT hn)).2,rfl⟩))
  ·exact ih u e
theorem aG3 {prs:List (α×α)}{ks:List α}{N:Nat}{S:eW α}{ah:Ah α}(h:cZ prs S N 0 (nY ks S)=(ah,none)) (f:Nat):fG prs ks N f S=(S,ah):=by
 cases f with
 |zero=>unfold fG;rw [h]
 |succ f=>simp only [fG,h]
theorem aC1 {prs:List (α×α)}{ks:List α}{N:Nat}{S:eW α}{ah:Ah α}{z:Pl α}(h:cZ prs S N 0 (nY ks S)=(ah,some z)) (f:Nat):fG prs ks N (f+1) S=fG prs ks N f (tT ah N S z):=by
 simp only [fG,h]
theorem aW6 {f:α->Int}{w:α}{m:Int}:(fun k=>if k=w then f w - m else f k)=fun k=>if k=w then f k - m else f k:=by
 funext k
 by_cases c:k=w
 ·rw [bh c,bh c,c]
 ·rw [ap c,ap c]
def eX (S:eW α) (t b:List (α×α)) (m:Int) (e:α×α):Int:=S.l e+m * ((t.count e:Int) - (b.count e:Int))
theorem aR7 (S:eW α) (m:Int):eX S [] [] m=S.l:=by
 funext e
 unfold eX;simp
theorem bI0 (S:eW α) (t b:List (α×α)) (m:Int) (e:α×α):(fun k=>if k=e then eX S t b m e+m else eX S t b m k)=eX S (t++[e]) b m:=by
 funext k
 unfold eX;rw [List.count_append]
 by_cases c:k=e
 ·subst c;rw [bh rfl,ya,za]
  grind
 ·rw [ap c,aAy,ap (by simpa using fun z=>c z.symm)];rfl
theorem bJ8 (S:eW α) (t b:List (α×α)) (m:Int) (e:α×α):(fun k=>if k=e then eX S t b m e - m else eX S t b m k)=eX S t (b++[e]) m:=by
 funext k
 unfold eX;rw [List.count_append]
 by_cases c:k=e
 ·subst c;rw [bh rfl,ya,za]
  grind
 ·rw [ap c,aAy,ap (by simpa using fun z=>c z.symm)];rfl
theorem aQ9 (S:eW α) (as:List α) (m:Int):eX S (bY as) (bS as) m=fun e=>S.l e+m * dl false as e:=by
 funext e
 unfold eX;rw [uY]
theorem bV6 {S:eW α}{as:List α}{y w:α}{i:Int}(h1:i∈S.o w :: S.p y :: (bS as).map S.l) (h2:∀ n∈S.o w :: S.p y :: (bS as).map S.l,i<=n):i=jU S as y w:=by
 obtain ⟨m1,m2,m3⟩:=pV (S.p y :: (bS as).map S.l) (S.o w);unfold jU;have:i<=(S.p y :: (bS as).map S.l).foldl min (S.o w):=by
  rcases m3 with e | e
  ·rw [e];exact h2 _ bj
  ·exact h2 _ (ba _ e)
 rcases bo.mp h1 with e | e
 ·have:i=S.o w:=e;omega
 ·have:=m2 _ e;omega
end
theorem xR {ws:List V}{k:Int}{n:Nat}{v:V}(e:k=(n:Int)) (h:ws[n]?=some v):yJ ws k=some v:=by subst e;exact jB h
def vE (a b d:Addr) (H H':Hp):Prop:=∀ c o,c≠a->c≠b->c≠d->H c=some o->H' c=some o
theorem vE.trans {a b d:Addr}{H H1 H2:Hp}(x:vE a b d H H1) (y:vE a b d H1 H2):vE a b d H H2:=fun c o n1 n2 n3 e=>y c o n1 n2 n3 (x c o n1 n2 n3 e)
theorem vE.same {a b d:Addr}{H H1 H2:Hp}(x:vE a b d H H1) (y:aN H1 H2):vE a b d H H2:=fun c o n1 n2 n3 e=>y c o (x c o n1 n2 n3 e)
theorem vE.of {a b d:Addr}{H H1:Hp}(y:aN H H1):vE a b d H H1:=fun c o _ _ _ e=>y c o e
variable {H:Hp}{a b d:Addr}
theorem vE.setO {l:HO}:vE a b d H (aJ H a l):=fun c o n _ _ e=>by rw [aE n];exact e
theorem vE.setP {l:HO}:vE a b d H (aJ H b l):=fun c o _ n _ e=>by rw [aE n];exact e
def bD (es:List En) (b:Int) (k:An):Int:=match es.find? fun e=>decide (e.1=k) with
 |some e=>iD e.2 b
 |none=>0
theorem pY {es:List En}{b:Int}(nd:(es.map (·.1)).Nodup) {e:En}(h:e∈es):bD es b e.1=iD e.2 b:=by
 unfold bD;have:es.find? (fun x=>decide (x.1=e.1))=some e:=by
  induction es with
  |nil=>exact absurd h cu
  |cons a r ih =>
   have nd:=fh.mp nd;rcases bo.mp h with q | q
   ·subst q;rw [aAa (by simp)]
   ·have ne:¬ a.1=e.1:=fun z=>nd.1 (am.mpr ⟨e,q,z.symm⟩)
    rw [aAb (by simpa using ne)];exact ih nd.2 q
 rw [this]
def amL (es:List En) (b:Int):List (An×V):=es.map fun e=>(e.1,.int (iD e.2 b))
def dJ (ks:List An) (f:An->Int):List (An×V):=ks.map fun k=>(k,.int (f k))
theorem bY7 {es:List En}{b:Int}(nd:(es.map (·.1)).Nodup):amL es b=dJ (es.map (·.1)) (bD es b):=by
 unfold amL dJ;rw [cz];exact ik fun e he=>by
  show (e.1,V.int (iD e.2 b))=(e.1,V.int (bD es b e.1))
  rw [pY nd he]
theorem iK {ks:List An}{f:An->Int}{x:An}(h:x∈ks):bH (dJ ks f) x=some (.int (f x)):=by
 induction ks with
 |nil=>exact absurd h cu
 |cons k ks ih =>
  by_cases c:k=x
  ·subst c;exact bR (p:=(k,V.int (f k))) rfl
  ·exact (aZ (p:=(k,V.int (f k))) (r:=dJ ks f) c).trans (ih ((bo.mp h).resolve_left fun z=>c z.symm))
theorem yR {ks:List An}{f:An->Int}{x:An}{v:Int}(h:x∈ks):bF (dJ ks f) x (.int v)=dJ ks fun k=>if k=x then v else f k:=by
 unfold bF;rw [bh (by rw [gB,iK h];rfl)];unfold dJ;rw [cz];refine ik fun k _=>?_
 show (if k=x then (k,V.int v) else (k,V.int (f k)))=_
 by_cases c:k=x
 ·subst c;simp
 ·rw [ap c];dsimp only;rw [ap c]
def pN (prs:List Pr2) (l:Pr2->Int):List (Pr2×V):=prs.map fun e=>(e,.int (l e))
theorem mH {prs:List Pr2}{l:Pr2->Int}{e:Pr2}(h:e∈prs):bH (pN prs l) e=some (.int (l e)):=by
 induction prs with
 |nil=>exact absurd h cu
 |cons k ks ih =>
  by_cases c:k=e
  ·subst c;exact bR (p:=(k,V.int (l k))) rfl
  ·exact (aZ (p:=(k,V.int (l k))) (r:=pN ks l) c).trans (ih ((bo.mp h).resolve_left fun z=>c z.symm))
theorem aM6 {prs:List Pr2}{l:Pr2->Int}{e:Pr2}{v:Int}(h:e∈prs):bF (pN prs l) e (.int v)=pN prs fun k=>if k=e then v else l k:=by
 unfold bF;rw [bh (by rw [gB,mH h];rfl)];unfold pN;rw [cz];refine ik fun k _=>?_
 show (if k=e then (k,V.int v) else (k,V.int (l k)))=_
 by_cases c:k=e
 ·subst c;simp
 ·rw [ap c];dsimp only;rw [ap c]
section
variable {X:Cx}{pos:Pos}{b:Bool}
theorem bL2 (b:Bool):PE X (.Dict [] [] pos) (fun _ H Q=>∀ p,H p=none->Q (.ref p) (aJ H p (dB b []))):=by
 cases b
 ·exact aX7
 ·exact aV0
def ItA (b:Bool) (d:Addr) (o:Obj) (l:List (An×V)):It:=if b then bH1 d o (l.map fun e=>(e.1.map Sum.inl,e.2)) else Itd d o (l.map fun e=>(Sum.inl (e.1.headD 0),e.2))
theorem bJ9 {tl:TE}{σ: St}{H:Hp}{R:It->Hp->Prop}{d:Addr}{l:List (An×V)}(ht:∀ Q:VK,Q (.ref d) H->tl σ H Q) (hd:H d=some (dB b l)) (k:∀ o,R (ItA b d o l) (aJ H d (.frz o (dB b l)))):bN4 tl σ H R\/bB2 tl σ H R:=by
 cases b
 ·exact .inl (ht _ ⟨d,_,rfl,hd,k⟩)
 ·exact .inr (ht _ ⟨d,_,rfl,hd,k⟩)
theorem bV8 {d:Addr}{o:Obj}{l:List (An×V)}{g:TG}{tc:TT}{te:TE}{Kf:List V->Hp->Prop}{σ0:St}{H1:Hp}(ok:∀ e∈l,VA b e.1) (Pv:Nat->List V->St->Hp->Prop) (hz:l.length < sizeLine) (h0:Pv 0 [] σ0 H1) (hb:∀ i zs σ H,Pv i zs σ H->zs.length<=i)
  (hl:∀ i zs σ H,i<=l.length->Pv i zs σ H->H d=some (.frz o (dB b l)))
  (hs:∀ i a v x zs σ H,l[i]?=some (a,v)->cV b H x a->Pv i zs σ H->g x σ H fun σ2 H2=>tc σ2 H2 fun b H3=>if b=true then te σ2 H3 fun y H4=>Pv (i+1) (zs++[y]) σ2 H4 else Pv (i+1) zs σ2 H3)
  (hd:∀ zs σ H,Pv l.length zs σ H->Kf zs H):lM (ItA b d o l) g tc te Kf σ0 H1:=by
 cases b with
 |false =>
  refine aN5 Pv (by rw [ae];exact hz) h0 hb (fun i zs σ H hi p=>hl i zs σ H (by rwa [ae] at hi) p) (fun i k v zs σ H hk p=>?_) (fun zs σ H p=>hd zs σ H (by rwa [ae] at p));rw [cp] at hk
  cases e:l[i]? with
  |none=>rw [e] at hk;cases hk
  |some q =>
   rw [e] at hk
   cases hk
   obtain ⟨n,en⟩:=(ok q (bq e)).resolve_left (by decide);exact hs i q.1 q.2 _ zs σ H e ⟨n,en,by rw [en];rfl⟩ p
 |true =>
  refine aG1 Pv (by rw [ae];exact hz) h0 hb (fun i zs σ H hi p=>hl i zs σ H (by rwa [ae] at hi) p) (fun i k v c zs σ H hk hc p=>?_) (fun zs σ H p=>hd zs σ H (by rwa [ae] at p));rw [cp] at hk
  cases e:l[i]? with
  |none=>rw [e] at hk;cases hk
  |some q =>
   rw [e] at hk
   cases hk
   exact hs i q.1 q.2 _ zs σ H e ⟨c,rfl,by rw [<- pO];exact hc⟩ p
end
def PD (P:Program) (w:World) (b:Bool) (H:Hp) (d:Addr) (l:List (Pr2×V)):Prop:=DN P w H d (l.map fun e=>(iT b e.1,e.2))/\∀ e∈l,VP b e.1
def QD (P:Program) (w:World) (b:Bool) (H:Hp) (d:Addr) (l:List (Pl An×V)):Prop:=DN P w H d (l.map fun e=>(sT b e.1,e.2))/\∀ e∈l,VA b e.1.2
section
variable {P:Program}{w:World}{b:Bool}{H H':Hp}{d:Addr}
theorem nS {κ: Type} [DecidableEq κ] {l:List (κ×V)}{k:κ}{v:V}{e:κ×V}(h:e∈bF l k v):e.1=k\/∃ x∈l,x.1=e.1:=by
 unfold bF at h
 split at h
 ·obtain ⟨x,hx,q⟩:=am.mp h;right;exists x,hx,?_;rw [<- q]
  split <;> rfl
 ·rcases cj.mp h with q | q
  ·exact .inr ⟨e,q,rfl⟩
  ·rw [ck.mp q];exact .inl rfl
theorem PD.get {l:List (Pr2×V)}(h:PD P w b H d l) {t:Addr}{u x:V}{e:Pr2}(ht:H t=some (.tup [u,x])) (h1:cV b H u e.1) (h2:cV b H x e.2):sQ P w H d (.ref t) (bH l e) :=
 .inr ⟨_,iT b e,t,h.1.r,rfl,sX ht h1 h2,(iJ (f:=iT b) fun y hy q=>lU (h.2 y hy) ⟨h1.va,h2.va⟩ q).symm⟩
theorem PD.put {l:List (Pr2×V)}(h:PD P w b H d l) {t:Addr}{u x y:V}{e:Pr2}{W:Hp->Prop}(ht:H t=some (.tup [u,x])) (h1:cV b H u e.1) (h2:cV b H x e.2) (hz:l.length < sizeLine)
  (k:∀ H',PD P w b H' d (bF l e y)->(∀ c,c≠d->H' c=H c)->W H'):aE2 P w H d (.ref t) y W :=
 .inr ⟨_,iT b e,t,h.1,rfl,sX ht h1 h2,by rw [ae];exact hz,fun H' D o=>k H' ⟨by rwa [nV (f:=iT b) fun y hy q=>lU (h.2 y hy) ⟨h1.va,h2.va⟩ q] at D,fun x hx=>by
  rcases nS hx with q | ⟨z,hz,q⟩
  ·rw [q];exact ⟨h1.va,h2.va⟩
  ·rw [<- q];exact h.2 z hz⟩ o⟩
theorem QD.get {l:List (Pl An×V)}(h:QD P w b H d l) {t:Addr}{z:Pl An}(ht:PlT b H t z):sQ P w H d (.ref t) (bH l z) :=
 .inr ⟨_,sT b z,t,h.1.r,rfl,ht.nat,(iJ (f:=sT b) fun y hy q=>uP (h.2 y hy) ht.va q).symm⟩
theorem QD.put {l:List (Pl An×V)}(h:QD P w b H d l) {t:Addr}{y:V}{z:Pl An}{W:Hp->Prop}(ht:PlT b H t z) (hz:l.length < sizeLine)
  (k:∀ H',QD P w b H' d (bF l z y)->(∀ c,c≠d->H' c=H c)->W H'):aE2 P w H d (.ref t) y W :=
 .inr ⟨_,sT b z,t,h.1,rfl,ht.nat,by rw [ae];exact hz,fun H' D o=>k H' ⟨by rwa [nV (f:=sT b) fun y hy q=>uP (h.2 y hy) ht.va q] at D,fun x hx=>by
  rcases nS hx with q | ⟨u,hu,q⟩
  ·rw [q];exact ht.va
  ·rw [<- q];exact h.2 u hu⟩ o⟩
theorem PD.keep {l:List (Pr2×V)}(h:PD P w b H d l) (t:TS H H') (s:∀ o,H d=some o->H' d=some o):PD P w b H' d l:=⟨h.1.keep t s,h.2⟩
theorem QD.keep {l:List (Pl An×V)}(h:QD P w b H d l) (t:TS H H') (s:∀ o,H d=some o->H' d=some o):QD P w b H' d l:=⟨h.1.keep t s,h.2⟩
theorem PD.ext {l:List (Pr2×V)}(h:PD P w b H d l):∃ φ,H d=some (.ext φ):=h.1.ext
theorem QD.ext {l:List (Pl An×V)}(h:QD P w b H d l):∃ φ,H d=some (.ext φ):=h.1.ext
theorem lY {κ: Type} [DecidableEq κ] {f:κ->List NKey}{l:List (κ×V)}(nd:(l.map (·.1)).Nodup) (inj:∀ x∈l,∀ y∈l,f x.1=f y.1->x.1=y.1):kP (l.map fun e=>(f e.1,e.2))=l.map fun e=>(f e.1,e.2):=by
 have key:∀ i,kP ((l.map fun e=>(f e.1,e.2)).take i)=(l.map fun e=>(f e.1,e.2)).take i:=by
  intro i
  induction i with
  |zero=>rfl
  |succ i ih =>
   cases e:(l.map fun e=>(f e.1,e.2))[i]? with
   |none =>
    have le:=rn.mp e;rw [jx (show _<=i+1 by omega)];rw [jx le] at ih;exact ih
   |some p =>
    rw [tG e,ih,aO e,jM]
    cases q:bH ((l.map fun e=>(f e.1,e.2)).take i) p.1 with
    |none=>rfl
    |some v =>
     exfalso;have li:=(bw.mp e).1;rw [ae] at li;have m:=aJ4 q;obtain ⟨y,hy,ey⟩:=am.mp m;rw [<- List.map_take] at hy;obtain ⟨x,hx,ex⟩:=am.mp hy;rw [cp,ak li] at e;have e':(f l[i].1,l[i].2)=p:=dm e;have k1:f x.1=f l[i].1:=by
      have a:y.1=f x.1:=by rw [<- ex]
      have b:p.1=f l[i].1:=by rw [<- e']
      rw [<- a, <- b];exact ey
     have k2:=inj x (pc hx) l[i] (jz li) k1;have s:l.map (·.1)=(l.take i).map (·.1)++(l.drop i).map (·.1):=by rw [<- bp,nv]
     rw [s] at nd;refine (qh.mp nd).2.2 _ (am.mpr ⟨x,hx,rfl⟩) _ ?_ k2;rw [oz li,au];exact bj
 have:=key (l.map fun e=>(f e.1,e.2)).length
 rwa [be] at this
end
end Mine
namespace L2
open PySem PySem.Spec PyProof.Rows
def MkL (P:Program) (w:World) (K:W.Frag) (mg:Str->Option Value) (base:Heap) (n:Nat) (sp:Sp) (C:Addr) (x:Str):Prop:=∃ f d ps,Mk K C f/\nK P w K mg base CX0 n f d ps sp/\hV K d ps []/\mg x=some (.ref C)
theorem pml {X:Cx}{x:Str}{p pos:Pos}{e:Expr}{es:List Expr}{t:TA}{C:Addr}{k:Nat}{sp:Sp}(M:MkL X.prog X.w X.K X.mg X.base k sp C x) {n:Nat}(hr:bU n X.A) (ha:PA X (e :: es) t) (hn:autoParam (k+1<=n) Rq9._auto_1) (hg:autoParam (Gl X x) Rq0._auto_1) (hdb:autoParam ((x == ("__debug__": Str))=false) Rq1._auto_1) (he:autoParam (starEach (e :: es) X.env=(false,eval e X.env) :: starEach es X.env) Rq0._auto_1)
  (hpl:autoParam ((backTo pos (starEach es X.env)).any (·.1)=false) Rq0._auto_1):PE X (.Call (.Name x p) (e :: es) [] pos) (bP7 C sp [] E0 t):=by obtain ⟨_,_,_,m,g,b,h⟩:=M;exact bL9 m g (hr.mono hn) hg h b .nil bN3 ha hdb he hpl
theorem xD {X:Cx}(K:W.Frag) {e:Expr}{f:Str}{pos:Pos}{ta:TE}(he:PE X e ta) (hb:attributeBase e f X.env (eval e X.env)=eval e X.env) (hK:autoParam (X.K=K) Rq0._auto_1):PE X (.Attribute e f pos) (cH2 K ta f):=by subst hK;exact gA he hb
end L2
namespace Mine
open PySem L2
structure LyT (K:W.Frag) (C:Addr):Prop where
 cl:Cls K C
 n1:iQ K C "one_left"
 n2:iQ K C "other_left"
 n3:iQ K C "partners"
 n4:iQ K C "givers"
 n5:iQ K C "laid"
def lyF (a b g v d:Addr):List (Str×V):=[("one_left",.ref a),("other_left",.ref b),("partners",.ref g),("givers",.ref v),("laid",.ref d)]
theorem aX6 (a b g v d:Addr):eU "laid" (.ref d) (eU "givers" (.ref v) (eU "partners" (.ref g) (eU "other_left" (.ref b) (eU "one_left" (.ref a) []))))=lyF a b g v d:=by
 have h1:¬ (("one_left": Str)="other_left"):=by decide +kernel
 have h2:¬ (("one_left": Str)="partners"):=by decide +kernel
 have h3:¬ (("other_left": Str)="partners"):=by decide +kernel
 have h4:¬ (("one_left": Str)="givers"):=by decide +kernel
 have h5:¬ (("other_left": Str)="givers"):=by decide +kernel
 have h6:¬ (("partners": Str)="givers"):=by decide +kernel
 have h7:¬ (("one_left": Str)="laid"):=by decide +kernel
 have h8:¬ (("other_left": Str)="laid"):=by decide +kernel
 have h9:¬ (("partners": Str)="laid"):=by decide +kernel
 have h0:¬ (("givers": Str)="laid"):=by decide +kernel
 simp only [eU,if_neg h1,if_neg h2,if_neg h3,if_neg h4,if_neg h5,if_neg h6,if_neg h7,if_neg h8,if_neg h9,if_neg h0,lyF]
theorem vM (a b g v d:Addr):(lyF a b g v d).lookup ("one_left": Str)=some (.ref a)/\(lyF a b g v d).lookup ("other_left": Str)=some (.ref b)/\(lyF a b g v d).lookup ("partners": Str)=some (.ref g)/\(lyF a b g v d).lookup ("givers": Str)=some (.ref v)/\(lyF a b g v d).lookup ("laid": Str)=some (.ref d):=by
 rw [<- aX6];simp only [lV];exists ?_,?_,?_,?_,?_
 ·rw [ap (by decide +kernel),ap (by decide +kernel),ap (by decide +kernel),ap (by decide +kernel),bh trivial]
 ·rw [ap (by decide +kernel),ap (by decide +kernel),ap (by decide +kernel),bh trivial]
 ·rw [ap (by decide +kernel),ap (by decide +kernel),bh trivial]
 ·rw [ap (by decide +kernel),bh trivial]
 ·rw [bh trivial]
theorem iO {H G:Hp}{a:Addr}{o:HO}(s:aN H G) (h:H a=none):aN H (aJ G a o):=fun b u e=>by rw [aE (aF e h)];exact s b u e
theorem pT {K:W.Frag}{H H':Hp}{a:Addr}{xs:List V}(s:aN H H') (h:aT K H a xs):aT K H' a xs:=by
 rcases h with (h | ⟨o,h⟩) | h
 ·exact .inl (.inl (s _ _ h))
 ·exact .inl (.inr ⟨o,s _ _ h⟩)
 ·exact .inr h
def SqE (K:W.Frag) (H:Hp) (p:Addr) (ws:List V):Prop:=bK K H p ws\/aT K H p ws
def gL (es:List (An×Addr)):List (An×V):=es.map fun e=>(e.1,.ref e.2)
structure tZ (b:Bool) (H:Hp) (g:Addr) (prs:List Pr2) (es:List (An×Addr)):Prop where
 d:H g=some (dB b (gL es))
 n:(es.map (·.2)).Nodup
 m:(es.map (·.1)).Nodup
 z:es.length<=prs.length
 l:∀ e∈es,∃ us,H e.2=some (.lst us)/\bC (cV b H) us (dF prs e.1)
 k:∀ x,x∉es.map (·.1)->dF prs x=[]
 v:∀ e∈es,VA b e.1
theorem kC (prs:List Pr2) (x y k:An):dF (prs++[(x,y)]) k=if x=k then dF prs k++[y] else dF prs k:=by
 unfold dF;rw [fk,bp]
 by_cases c:x=k
 ·rw [bh c];simp [List.filter_cons,c]
 ·rw [ap c];simp [List.filter_cons,c]
theorem sY:∀ {es:List (An×Addr)}{x:An}{r:Addr},(es.map (·.1)).Nodup->(x,r)∈es->bH (gL es) x=some (.ref r)
 |e :: es,x,r,nd,h=>by
  have nd:=fh.mp nd;rcases bo.mp h with q | q
  ·subst q;exact bR (p:=(x,V.ref r)) rfl
  ·have ne:e.1≠x:=fun z=>nd.1 (am.mpr ⟨(x,r),q,z.symm⟩)
   exact (aZ (p:=(e.1,V.ref e.2)) (r:=gL es) (k:=x) ne).trans (sY nd.2 q)
theorem rQ:∀ {es:List (An×Addr)}{x:An},x∉es.map (·.1)->bH (gL es) x=none
 |[],_,_=>rfl
 |e :: es,x,h=>by
  rw [au,bo,not_or] at h;exact (aZ (p:=(e.1,V.ref e.2)) (r:=gL es) (k:=x) (fun z=>h.1 z.symm)).trans (rQ h.2)
theorem bU9 {es:List (An×Addr)}{x:An}{r:Addr}(h:x∉es.map (·.1)):bF (gL es) x (.ref r)=gL (es++[(x,r)]):=by
 rw [jM _ (rQ h)];unfold gL;rw [bp];rfl
section
variable {b:Bool}{H H':Hp}{g r z:Addr}{prs:List Pr2}{es:List (An×Addr)}{x y:An}
theorem qA {u:List V}{l:List (An×V)}:HO.lst u≠dB b l:=pU (by intro z q;cases q) (by intro z q;cases q)
theorem lH {u:List V}{l:List (An×V)}:HO.tup u≠dB b l:=pU (by intro z q;cases q) (by intro z q;cases q)
theorem lT {C dx:Addr}{fs:List (Str×V)}{l:List (An×V)}:HO.ins C dx fs≠dB b l:=pU (by intro z q;cases q) (by intro z q;cases q)
theorem aH9 {φ: Heap->Prop}{l:List (An×V)}:HO.ext φ≠dB b l:=pU (by intro z q;cases q) (by intro z q;cases q)
theorem tZ.ne (G:tZ b H g prs es):∀ e∈es,e.2≠g:=fun e he=>let ⟨_,h,_⟩:=G.l e he;bN h G.d qA
theorem tZ.keep (G:tZ b H g prs es) (t:TS H H') (h0:∀ o,H g=some o->H' g=some o) (h1:∀ e∈es,∀ o,H e.2=some o->H' e.2=some o):tZ b H' g prs es :=
 ⟨h0 _ G.d,G.n,G.m,G.z,fun e he=>let ⟨us,h,tw⟩:=G.l e he;⟨us,h1 e he _ h,tw.mono fun _ _ q=>q.ts t⟩,G.k,G.v⟩
theorem tZ.same (G:tZ b H g prs es) (s:aN H H'):tZ b H' g prs es:=G.keep (TS.of s) (fun _ e=>s _ _ e) fun _ _ _ e=>s _ _ e
theorem aU2 {es:List (An×Addr)}(m:(es.map (·.2)).Nodup) {e f:An×Addr}(he:e∈es) (hf:f∈es) (h:e.2=f.2):e=f:=by
 induction es with
 |nil=>exact absurd he cu
 |cons a es ih =>
  have m:=fh.mp m;rcases bo.mp he with x | x <;> rcases bo.mp hf with y | y
  ·rw [x,y]
  ·exact absurd (am.mpr ⟨f,y,by rw [<- h,x]⟩) m.1
  ·exact absurd (am.mpr ⟨e,x,by rw [h,y]⟩) m.1
  ·exact ih m.2 x y
theorem bD1 {es:List (An×Addr)}(m:(es.map (·.1)).Nodup) {e f:An×Addr}(he:e∈es) (hf:f∈es) (h:e.1=f.1):e=f:=by
 induction es with
 |nil=>exact absurd he cu
 |cons a es ih =>
  have m:=fh.mp m;rcases bo.mp he with x | x <;> rcases bo.mp hf with y | y
  ·rw [x,y]
  ·exact absurd (am.mpr ⟨f,y,by rw [<- h,x]⟩) m.1
  ·exact absurd (am.mpr ⟨e,x,by rw [h,y]⟩) m.1
  ·exact ih m.2 x y
theorem tZ.old (G:tZ b H g prs es) (h:(x,r)∈es) {us:List V}{v:V}(hu:H r=some (.lst us)) (tu:bC (cV b H) us (dF prs x)) (hv:cV b H v y):tZ b (aJ H r (.lst (us++[v]))) g (prs++[(x,y)]) es:=by
 have ts:TS H (aJ H r (.lst (us++[v]))):=TS.lst hu;exists by rw [aE (G.ne _ h).symm];exact G.d,G.n,G.m,cy G.z (by simp),fun e he=>?_,fun k hk=>?_,G.v
 ·rw [kC]
  by_cases c:e.2=r
  ·have q:e=(x,r):=aU2 G.n he h c;subst q;exact ⟨us++[v],aB,by rw [bh rfl];exact bC.append (tu.mono fun _ _ q=>q.ts ts) ⟨hv.ts ts,trivial⟩⟩
  ·rw [aE c,ap fun z=>c (ed (·.2) (bD1 G.m he h z.symm))];obtain ⟨ws,h1,h2⟩:=G.l e he;exact ⟨ws,h1,h2.mono fun _ _ q=>q.ts ts⟩
 ·rw [kC,ap fun z=>hk (by rw [<- z];exact am.mpr ⟨_,h,rfl⟩)];exact G.k k hk
theorem tZ.new (G:tZ b H g prs es) (hx:x∉es.map (·.1)) (vx:VA b x) (zg:z≠g) (hz0:H z=some (.lst [])) (hz:∀ e∈es,e.2≠z) {v:V}(hv:cV b H v y) :
  tZ b (aJ (aJ H g (dB b (bF (gL es) x (.ref z)))) z (.lst [v])) g (prs++[(x,y)]) (es++[(x,z)]):=by
 have t1:TS H (aJ H g (dB b (bF (gL es) x (.ref z)))):=fun c xs q=>by rw [aE (bN q G.d lH)];exact q
 have ts:TS H (aJ (aJ H g (dB b (bF (gL es) x (.ref z)))) z (.lst [v])):=fun c xs q=>by rw [aE (bN q hz0 (by intro w;cases w))];exact t1 _ _ q
 exists by rw [aE zg.symm,aB,bU9 hx],?_,?_,by rw [cq,cq];exact Nat.add_le_add_right G.z 1,fun e he=>?_,fun k hk=>?_,fun e he=>?_
 ·rw [bp];exact gK G.n fun q=>by
   obtain ⟨e,he,q⟩:=am.mp q;exact hz e he q
 ·rw [bp];exact gK G.m hx
 ·rw [kC];rcases cj.mp he with q | q
  ·rw [aE (hz e q),aE (G.ne e q),ap fun w=>hx (by rw [w];exact am.mpr ⟨e,q,rfl⟩)];obtain ⟨ws,h1,h2⟩:=G.l e q;exact ⟨ws,h1,h2.mono fun _ _ q=>q.ts ts⟩
  ·rw [ck.mp q];exact ⟨[v],aB,by rw [bh rfl,G.k x hx];exact ⟨hv.ts ts,trivial⟩⟩
 ·rw [bp,cj,not_or] at hk;rw [kC,ap fun w=>hk.2 (by rw [<- w];exact ck.mpr rfl)];exact G.k k hk.1
 ·rcases cj.mp he with q | q
  ·exact G.v e q
  ·rw [ck.mp q];exact vx
end
structure GpI (b:Bool) (H G:Hp) (g:Addr) (prs:List Pr2) (i:Nat) (es:List (An×Addr)):Prop where
 s:aN H G
 q:tZ b G g (prs.take i) es
 f:∀ e∈es,H e.2=none
theorem GpI.start {b:Bool}{H:Hp}{g:Addr}{prs:List Pr2}(hg:H g=none):GpI b H (aJ H g (dB b [])) g prs 0 [] :=
 ⟨aA hg _,⟨aB,jj,jj,df _,fun _ h=>absurd h cu,fun _ _=>rfl,fun _ h=>absurd h cu⟩,fun _ h=>absurd h cu⟩
theorem GpI.old {b:Bool}{H G:Hp}{g z r:Addr}{prs:List Pr2}{i:Nat}{es:List (An×Addr)}{x y:An}{us:List V}{v:V}(I:GpI b H G g prs i es) (hz:G z=none) (h:(x,r)∈es) (hi:prs[i]?=some (x,y)) (hu:G r=some (.lst us)) (tu:bC (cV b G) us (dF (prs.take i) x)) (hv:cV b G v y) :
  GpI b H (aJ (aJ G z (.lst [])) r (.lst (us++[v]))) g prs (i+1) es:=by
 have sz:=aA hz (.lst []);exists iO (I.s.trans sz) (I.f _ h),?_,I.f;rw [aO hi];exact (I.q.same sz).old h (sz _ _ hu) (tu.mono fun _ _ q=>q.ts (TS.of sz)) (hv.ts (TS.of sz))
theorem GpI.new {b:Bool}{H G:Hp}{g z:Addr}{prs:List Pr2}{i:Nat}{es:List (An×Addr)}{x y:An}{v:V}(I:GpI b H G g prs i es) (hg:H g=none) (hz:G z=none) (hx:x∉es.map (·.1)) (vx:VA b x) (hi:prs[i]?=some (x,y)) (hv:cV b G v y) :
  GpI b H (aJ (aJ (aJ G z (.lst [])) g (dB b (bF (gL es) x (.ref z)))) z (.lst [v])) g prs (i+1) (es++[(x,z)]):=by
 have z0:=I.s.free hz;have sz:=aA hz (.lst []);exists iO (iO (I.s.trans sz) hg) z0,?_,fun e he=>?_
 ·rw [aO hi];have zg:z≠g:=(aF I.q.d hz).symm;exact (I.q.same sz).new hx vx zg aB (fun e he=>let ⟨_,h,_⟩:=I.q.l e he;aF h hz) (hv.ts (TS.of sz))
 ·rcases cj.mp he with q | q
  ·exact I.f e q
  ·rw [ck.mp q];exact z0
def bP3 (K:W.Frag) (b:Bool):Sp:=fun vs H Q _=>∃ (p:Addr) (ws:List V) (prs:List Pr2),vs=[.ref p]/\SqE K H p ws/\bC (jJ b H) ws prs/\prs.length<=1000/\∀ H' g es,aN H H'->H g=none->tZ b H' g prs es->(∀ e∈es,H e.2=none)->Q (.ref g) H'
structure rJ (P:Program) (w:World) (b:Bool) (C:Addr) (H:Hp) (x:Addr) (a c g v d:Addr) (prs:List Pr2) (ks qs:List An) (S:eW An):Prop where
 ob:∃ dx,H x=some (.ins C dx (lyF a c g v d))
 o:H a=some (dB b (dJ ks S.o))
 p:H c=some (dB b (dJ qs S.p))
 l:PD P w b H d (pN prs S.l)
 gp:∃ es,tZ b H g prs es
 gv:∃ es,tZ b H v (prs.map fun e=>(e.2,e.1)) es
 ab:a≠c
 ag:a≠g
 av:a≠v
 bg:c≠g
 bv:c≠v
 vk:∀ k∈ks,VA b k
 vq:∀ k∈qs,VA b k
theorem tJ (prs:List Pr2) (y:An):fV prs y=dF (prs.map fun e=>(e.2,e.1)) y:=by
 unfold fV dF;rw [List.filter_map,cz];rfl
def bO4 (K:W.Frag) (b:Bool):Sp:=fun vs H Q _=>∃ (p:Addr) (ws:List V) (es:List En) (bt:Int),vs=[.ref p,.int bt]/\SqE K H p ws/\bC (nZ b H) ws es/\(es.map (·.1)).Nodup/\es.length<=100/\(∀ e∈es,1<=e.2.2/\hU 2000 e.2.1/\hU 2000 e.2.2)/\0<=bt/\hU 2000 bt /\
 ∀ H' d,aN H H'->H d=none->H' d=some (dB b (dJ (es.map (·.1)) (bD es bt)))->Q (.ref d) H'
def OfX (x:Addr) (H H':Hp):Prop:=∀ a o,a≠x->H a=some o->H' a=some o
theorem OfX.upd {x:Addr}{H:Hp}{o:HO}:OfX x H (aJ H x o):=fun a u n e=>by rw [aE n];exact e
theorem OfX.trans {x:Addr}{H H1 H2:Hp}(a:OfX x H H1) (b:OfX x H1 H2):OfX x H H2:=fun c o n e=>b c o n (a c o n e)
theorem OfX.same {x:Addr}{H H1 H2:Hp}(a:OfX x H H1) (b:aN H1 H2):OfX x H H2:=fun c o n e=>b c o (a c o n e)
theorem OfX.ts {x dx C:Addr}{fs:List (Str×V)}{H H':Hp}(o:OfX x H H') (h:H x=some (.ins C dx fs)):∀ a xs,H a=some (.tup xs)->H' a=some (.tup xs):=fun a xs e=>o a _ (bN e h (by intro z;cases z)) e
theorem xB {f:Str}{v:V}{fs:List (Str×V)}{n:Nat}(h:fs.length<=n):(eU f v fs).length<=n+1:=by
 induction fs generalizing n with
 |nil=>simp [eU]
 |cons a r ih =>
  unfold eU
  split
  ·rw [dq] at h ⊢;omega
  ·rw [dq] at h ⊢;have:=ih (n:=n - 1) ∅;omega
def aG8 (P:Program) (w:World) (K:W.Frag) (b:Bool) (C:Addr):Sp:=fun vs H Q _=>∃ (x a c p dx:Addr) (ws:List V) (prs:List Pr2) (ks qs:List An) (f h:An->Int),vs=[.ref x,.ref a,.ref c,.ref p]/\H x=some (.ins C dx []) /\
 H a=some (dB b (dJ ks f))/\H c=some (dB b (dJ qs h))/\a≠c/\H p=some (.tup ws)/\bC (jJ b H) ws prs/\prs.Nodup/\prs.length<=200/\(∀ k∈ks,VA b k)/\(∀ k∈qs,VA b k) /\
 ∀ H' g v d,OfX x H H'->H d=none->rJ P w b C H' x a c g v d prs ks qs ⟨f,h,fun _=>0⟩->Q .non H'
structure LyO (prs:List Pr2) (ks qs:List An):Prop where
 pr:∀ e∈prs,e.1∈ks/\e.2∈qs
 nd:prs.Nodup
 nk:ks.Nodup
 nq:qs.Nodup
 zp:prs.length<=200
 zk:ks.length<=50
 zq:qs.length<=50
theorem aT6 {prs:List Pr2}{n y:An}(h:n∈fV prs y):(n,y)∈prs:=by
 unfold fV at h;obtain ⟨e,he,q⟩:=am.mp h;obtain ⟨h1,h2⟩:=br.mp he;have h2:=cf h2;rw [<- q, <- h2];exact h1
section
variable (P:Program) (w:World) (b:Bool) (C:Addr)
def bN9:Sp:=fun vs H Q _=>∃ (x a c g v d t:Addr) (prs:List Pr2) (ks qs:List An) (S:eW An) (z:Pl An),vs=[.ref x,.ref t]/\rJ P w b C H x a c g v d prs ks qs S/\PlT b H t z/\(z.1=false->z.2∈qs)/\Q (.bl (kR S z)) H
def bP0:Sp:=fun vs H Q _=>∃ (x a c g v d t:Addr) (prs:List Pr2) (ks qs:List An) (S:eW An) (z:Pl An),vs=[.ref x,.ref t]/\rJ P w b C H x a c g v d prs ks qs S/\LyO prs ks qs/\PlT b H t z/\(z.1=false->fV prs z.2≠[]) /\
 ∀ H' l ws,aN H H'->H l=none->H' l=some (.lst ws)->bC (PlE b H') ws (dZ prs S z)->Q (.ref l) H'
end
def AhV (b:Bool) (H:Hp) (o:Option (Pl An)) (v:V):Prop:=match o with
 |none=>v= .non
 |some c=>∃ t,v= .ref t/\PlT b H t c
theorem AhV.ts {b:Bool}{H H':Hp}(t:TS H H') {o:Option (Pl An)}{v:V}(h:AhV b H o v):AhV b H' o v:=by
 cases o with
 |none=>exact h
 |some c=>exact let ⟨a,e,q⟩:=h;⟨a,e,q.ts t⟩
def xF (b:Bool) (H:Hp):List (Pl An×V)->Ah An->Prop
 |[],[]=>True
 |(k,v) :: r,(z,o) :: s=>k=z/\AhV b H o v/\xF b H r s
 |_,_=>False
section
variable {b:Bool}{H H':Hp}
theorem xF.ts (t:TS H H'):∀ {kvs:List (Pl An×V)}{ah:Ah An},xF b H kvs ah->xF b H' kvs ah
 |[],[],_=>trivial
 |(_,_) :: _,(_,_) :: _,⟨a,b,c⟩=>⟨a,b.ts t,xF.ts t c⟩
 |[],_ :: _,z=>z.elim
 |_ :: _,[],z=>by cases z
theorem xF.len:∀ {kvs:List (Pl An×V)}{ah:Ah An},xF b H kvs ah->kvs.length=ah.length
 |[],[],_=>rfl
 |(_,_) :: _,(_,_) :: _,⟨_,_,c⟩=>by rw [dq,dq,xF.len c]
 |[],_ :: _,z=>z.elim
 |_ :: _,[],z=>by cases z
theorem xF.app:∀ {k1 k2:List (Pl An×V)}{a1 a2:Ah An},xF b H k1 a1->xF b H k2 a2->xF b H (k1++k2) (a1++a2)
 |[],_,[],_,_,h=>h
 |(_,_) :: _,_,(_,_) :: _,_,⟨a,b,c⟩,h=>⟨a,b,xF.app c h⟩
 |[],_,_ :: _,_,z,_=>z.elim
 |_ :: _,_,[],_,z,_=>by cases z
theorem xF.look {z:Pl An}:∀ {kvs:List (Pl An×V)}{ah:Ah An},xF b H kvs ah->(eL ah z=none->bH kvs z=none)/\∀ o,eL ah z=some o->∃ v,bH kvs z=some v/\AhV b H o v
 |[],[],_=>⟨fun _=>rfl,fun o h=>(by cases h)⟩
 |(k,v) :: r,(y,o) :: s,⟨a,c0,c⟩=>by
  obtain ⟨i1,i2⟩:=xF.look (z:=z) c;subst a
  by_cases q:k=z
  ·subst q;have e:eL ((k,o) :: s) k=some o:=by unfold eL;rw [aAa (by simp)];rfl
   rw [e];exact ⟨fun h=>(by cases h),fun o' h=>by cases h;exact ⟨v,bR rfl,c0⟩⟩
  ·have e:eL ((k,o) :: s) z=eL s z:=by unfold eL;rw [aAb (by simpa using q)]
   have ne:bH ((k,v) :: r) z=bH r z:=aZ q;rw [e,ne];exact ⟨i1,i2⟩
 |[],_ :: _,z=>z.elim
 |_ :: _,[],z=>by cases z
end
def AhH (P:Program) (w:World) (b:Bool) (H:Hp) (d:Addr) (ah:Ah An):Prop:=∃ kvs,QD P w b H d kvs/\xF b H kvs ah
theorem AhH.same {P:Program}{w:World}{b:Bool}{H H':Hp}{d:Addr}{ah:Ah An}(h:AhH P w b H d ah) (s:aN H H'):AhH P w b H' d ah:=by obtain ⟨k,a,c⟩:=h;exact ⟨k,a.keep (TS.of s) (fun _ e=>s _ _ e),c.ts (TS.of s)⟩
def RV (b:Bool) (H:Hp) (rest:List (Pl An)) (v:V):Prop:=AhV b H rest.head? v
theorem Tr.next {ah:Ah An}{z:Pl An}{r:List (Pl An)}(t:Tr ah (z :: r)):eL ah z=some r.head?/\(r=[]\/Tr ah r):=by
 cases t with
 |last h=>exact ⟨h,.inl rfl⟩
 |cons h t=>exact ⟨h,.inr t⟩
def bC3 (P:Program) (w:World) (b:Bool):Sp:=fun vs H Q _=>∃ (d:Addr) (u:V) (ah:Ah An) (z:Pl An) (r:List (Pl An)),vs=[.ref d,u]/\AhH P w b H d ah/\AhV b H (some z) u/\Tr ah (z :: r)/\(z :: r).length<=200 /\
 ∀ H' l us,aN H H'->H l=none->H' l=some (.lst us)->bC (cV b H') us ((z :: r).map (·.2))->Q (.ref l) H'
theorem aN6 {prs:List Pr2}{S:eW An}{c z:Pl An}(h:z∈dZ prs S c):z.1=false->fV prs z.2≠[]:=fun q=>by
 obtain ⟨b,x⟩:=c
 cases b with
 |true =>
  obtain ⟨y,hy,rfl⟩:=am.mp h;have m:=jT h;intro e;have:x∈fV prs y:=by
   unfold fV;exact am.mpr ⟨(x,y),br.mpr ⟨m,ar rfl⟩,rfl⟩
  rw [show fV prs y=[] from e] at this;exact cu this
 |false =>
  obtain ⟨y,_,rfl⟩:=am.mp h
  cases q
theorem aR2 {prs:List Pr2}{ks qs:List An}(hp:∀ e∈prs,e.1∈ks/\e.2∈qs) {S:eW An}{c z:Pl An}(h:z∈dZ prs S c):z.1=false->z.2∈qs:=fun q=>by
 obtain ⟨b,x⟩:=c;obtain ⟨b',y⟩:=z
 cases b with
 |true =>
  cases q
  exact (hp _ (jT h)).2
 |false =>
  have:=gJ h;rw [show b'=false from q] at this
  cases this
theorem bE9 {prs:List Pr2}{S:eW An}{ks:List An}{ah:Ah An}(w:Wf prs S ks ah):∀ z∈aV ah,z.1=false->fV prs z.2≠[]:=by
 induction w with
 |nil=>intro z hz;exact absurd hz cu
 |root _ _ _ _ ih =>
  intro z hz q;rw [cI] at hz;rcases cj.mp hz with e | e
  ·exact ih z e q
  ·rw [ck.mp e] at q;cases q
 |step _ _ _ hn ih =>
  intro z hz q;rw [cI] at hz;rcases cj.mp hz with e | e
  ·exact ih z e q
  ·rw [ck.mp e] at q ⊢;exact aN6 hn q
theorem jO {ah:Ah An}{z:Pl An}:z∉aV ah↔eL ah z=none:=by
 constructor
 ·intro h
  cases e:eL ah z with
  |none=>rfl
  |some o=>exact absurd (jR e) h
 ·intro h m;unfold eL at h;rw [aAc] at h;obtain ⟨e,he,q⟩:=am.mp m;exact nh.mp h e he (ar q)
theorem aY8 {S:eW An}{cur z:Pl An}{zs:List (Pl An)}{ah:Ah An}(h:z∈aV ah):gZ S cur (z :: zs) ah=gZ S cur zs ah:=by
 rw [gZ,bh h]
theorem bD9 {S:eW An}{cur z:Pl An}{zs:List (Pl An)}{ah:Ah An}(h:z∉aV ah) (r:kR S z=true):gZ S cur (z :: zs) ah=(ah++[(z,some cur)],some z):=by
 rw [gZ,ap h,bh r]
theorem bI2 {S:eW An}{cur z:Pl An}{zs:List (Pl An)}{ah:Ah An}(h:z∉aV ah) (r:kR S z=false):gZ S cur (z :: zs) ah=gZ S cur zs (ah++[(z,some cur)]):=by
 rw [gZ,ap h,ap (by rw [r];decide)]
theorem aQ3 {prs:List Pr2}{S:eW An}{f d:Nat}{ah:Ah An}(h:(aV ah).length<=d):cZ prs S f d ah=(ah,none):=by
 cases f with
 |zero=>rfl
 |succ f=>simp only [cZ,List.getElem?_eq_none h]
theorem aW2 {prs:List Pr2}{S:eW An}{f d:Nat}{ah ah':Ah An}{cur z:Pl An}(h:(aV ah)[d]?=some cur) (r:gZ S cur (dZ prs S cur) ah=(ah',some z)):cZ prs S (f+1) d ah=(ah',some z):=by simp only [cZ,h,r]
theorem bJ2 {prs:List Pr2}{S:eW An}{f d:Nat}{ah ah':Ah An}{cur:Pl An}(h:(aV ah)[d]?=some cur) (r:gZ S cur (dZ prs S cur) ah=(ah',none)):cZ prs S (f+1) d ah=cZ prs S f (d+1) ah':=by simp only [cZ,h,r]
def bO8 (P:Program) (w:World) (b:Bool) (C:Addr):Sp:=fun vs H Q _=>∃ (x a c g v d:Addr) (prs:List Pr2) (ks qs:List An) (S:eW An),vs=[.ref x]/\rJ P w b C H x a c g v d prs ks qs S/\LyO prs ks qs /\
 ∀ H' r dA u,aN H H'->H' r=some (.tup [.ref dA,u])->AhH P w b H' dA (cZ prs S ((fM ks qs).length+1) 0 (nY ks S)).1->AhV b H' (cZ prs S ((fM ks qs).length+1) 0 (nY ks S)).2 u->Q (.ref r) H'
def xO (zs:List (Pl An)):List (Pl An×V):=zs.map fun z=>(z,.non)
def PlN (b:Bool) (H:Hp) (v:V) (z:Pl An):Prop:=∃ t q,v= .ref t/\H t=some (.tup [.ref q,.non])/\PlT b H q z
theorem PlN.ts {b:Bool}{H H':Hp}{v:V}{z:Pl An}(s:TS H H') (h:PlN b H v z):PlN b H' v z:=by obtain ⟨t,q,e,h1,h2⟩:=h;exact ⟨t,q,e,s _ _ h1,h2.ts s⟩
theorem cY {α: Type}{R:V->α->Prop}:∀ {us:List V}{as:List α}{i:Nat}{a:α},bC R us as->as[i]?=some a->∃ v,us[i]?=some v/\R v a
 |[],[],_,_,_,h=>by simp at h
 |v :: us,a :: as,0,_,⟨h,_⟩,q=>by simp at q;subst q;exact ⟨v,rfl,h⟩
 |v :: us,a :: as,i+1,x,⟨_,r⟩,q=>cY (i:=i) r (by simpa using q)
 |[],_ :: _,_,_,z,_=>z.elim
 |_ :: _,[],_,_,z,_=>z.elim
theorem aO9 {b:Bool}{H:Hp}{ys:List V}{zs:List (Pl An)}(tw:bC (PlN b H) ys zs):pQ H ys ((xO zs).map fun e=>(sT b e.1,e.2)):=by
 exists by rw [tw.length];unfold xO;rw [ae,ae],fun i e he=>?_;unfold xO at he;rw [cz,cp] at he
 cases q:zs[i]? with
 |none=>rw [q] at he;cases he
 |some z =>
  rw [q] at he
  cases he
  obtain ⟨v,hv,t,c,rfl,h1,h2⟩:=cY tw q;exact ⟨t,c,hv,h1,h2.nat⟩
theorem bE5 (b:Bool) (H:Hp):∀ zs:List (Pl An),xF b H (xO zs) (zs.map fun z=>(z,none))
 |[]=>trivial
 |_ :: zs=>⟨rfl,rfl,bE5 b H zs⟩
theorem aR1 {H G:Hp}{a l:Addr}{o:Obj}{u:HO}{w:HO}(ha:H a=some u) (s:aN (aJ H a (.frz o u)) G) (hl:G l=none):aN H (aJ (aJ G l w) a u):=fun c q e=>by
 by_cases ca:c=a
 ·subst ca;rw [ha] at e;rw [aB];exact e
 ·rw [aE ca];exact aA hl _ _ _ (s _ _ (by rw [aE ca];exact e))
section
variable {P:Program}{w:World}{b:Bool}{C:Addr}{H H' G G':Hp}{x a c g v d l dA t:Addr}{prs:List Pr2}{ks qs:List An}{S:eW An}{ah:Ah An}
theorem rJ.same (Y:rJ P w b C H x a c g v d prs ks qs S) (s:aN H H'):rJ P w b C H' x a c g v d prs ks qs S:=by
 obtain ⟨⟨dx,h1⟩,h2,h3,h4,⟨es,h5⟩,⟨es',h6⟩,n1,n2,n3,n4,n5,v1,v2⟩:=Y;exact ⟨⟨dx,s _ _ h1⟩,s _ _ h2,s _ _ h3,h4.keep (TS.of s) (fun _ e=>s _ _ e),⟨es,h5.same s⟩,⟨es',h6.same s⟩,n1,n2,n3,n4,n5,v1,v2⟩
structure SrQ (P:Program) (w:World) (b:Bool) (H G:Hp) (l dA:Addr) (prs:List Pr2) (ks:List An) (S:eW An) (ah:Ah An):Prop where
 s:aN H G
 q:∃ us,G l=some (.lst us)/\bC (PlE b G) us (aV ah)
 k:AhH P w b G dA ah
 w:Wf prs S ks ah
theorem SrQ.same (Q:SrQ P w b H G l dA prs ks S ah) (s:aN G G'):SrQ P w b H G' l dA prs ks S ah:=by
 obtain ⟨s0,⟨us,h1,h2⟩,h3,w⟩:=Q;exact ⟨s0.trans s,⟨us,s _ _ h1,h2.mono fun _ _ z=>z.ts (TS.of s)⟩,h3.same s,w⟩
theorem rJ.setL (Y:rJ P w b C H x a c g v d prs ks qs S) (L:Pr2->Int) (hd:PD P w b H' d (pN prs L)) (o:∀ e,e≠d->H' e=H e):rJ P w b C H' x a c g v d prs ks qs ⟨S.o,S.p,L⟩:=by
 obtain ⟨⟨dx,h1⟩,h2,h3,h4,⟨es,h5⟩,⟨es',h6⟩,n1,n2,n3,n4,n5,v1,v2⟩:=Y;obtain ⟨φ,hx⟩:=h4.ext;have k {e:Addr}{u:HO}(n:u≠ .ext φ) (q:H e=some u):H' e=some u:=by rw [o e (bN q hx n)];exact q
 have ts:TS H H':=fun e xs q=>k (by intro z;cases z) q
 have kg:∀ {f:Addr}{l:List (An×V)}(u:HO),H f=some (dB b l)->H f=some u->H' f=some u:=fun u q r=>k (by cases q.symm.trans r;exact aH9.symm) r
 exact ⟨⟨dx,k (by intro z;cases z) h1⟩,kg _ h2 h2,kg _ h3 h3,hd,⟨es,h5.keep ts (fun u r=>kg u h5.d r) fun e he u r=>let ⟨us,q,_⟩:=h5.l e he;k (by cases q.symm.trans r;intro z;cases z) r⟩,⟨es',h6.keep ts (fun u r=>kg u h6.d r) fun e he u r=>let ⟨us,q,_⟩:=h6.l e he;k (by cases q.symm.trans r;intro z;cases z) r⟩,n1,n2,n3,n4,n5,v1,v2⟩
theorem rJ.setO (Y:rJ P w b C H x a c g v d prs ks qs S) (L:An->Int):rJ P w b C (aJ H a (dB b (dJ ks L))) x a c g v d prs ks qs ⟨L,S.p,S.l⟩:=by
 obtain ⟨⟨dx,h1⟩,h2,h3,h4,⟨es,h5⟩,⟨es',h6⟩,n1,n2,n3,n4,n5,v1,v2⟩:=Y;obtain ⟨φ,hx⟩:=h4.ext;have k {e:Addr}{o:HO}(n:e≠a) (q:H e=some o):aJ H a (dB b (dJ ks L)) e=some o:=by rw [aE n];exact q
 have ts:TS H (aJ H a (dB b (dJ ks L))):=fun e xs q=>k (bN q h2 lH) q
 exact ⟨⟨dx,k (bN h1 h2 lT) h1⟩,aB,k n1.symm h3,h4.keep ts (fun u r=>k (bN hx h2 aH9) r),⟨es,h5.keep ts (fun o q=>k n2.symm q) fun e he o q=>let ⟨_,r,_⟩:=h5.l e he;k (bN r h2 qA) q⟩,⟨es',h6.keep ts (fun o q=>k n3.symm q) fun e he o q=>let ⟨_,r,_⟩:=h6.l e he;k (bN r h2 qA) q⟩,n1,n2,n3,n4,n5,v1,v2⟩
theorem rJ.setP (Y:rJ P w b C H x a c g v d prs ks qs S) (L:An->Int):rJ P w b C (aJ H c (dB b (dJ qs L))) x a c g v d prs ks qs ⟨S.o,L,S.l⟩:=by
 obtain ⟨⟨dx,h1⟩,h2,h3,h4,⟨es,h5⟩,⟨es',h6⟩,n1,n2,n3,n4,n5,v1,v2⟩:=Y;obtain ⟨φ,hx⟩:=h4.ext;have k {e:Addr}{o:HO}(n:e≠c) (q:H e=some o):aJ H c (dB b (dJ qs L)) e=some o:=by rw [aE n];exact q
 have ts:TS H (aJ H c (dB b (dJ qs L))):=fun e xs q=>k (bN q h3 lH) q
 exact ⟨⟨dx,k (bN h1 h3 lT) h1⟩,k n1 h2,aB,h4.keep ts (fun u r=>k (bN hx h3 aH9) r),⟨es,h5.keep ts (fun o q=>k n4.symm q) fun e he o q=>let ⟨_,r,_⟩:=h5.l e he;k (bN r h3 qA) q⟩,⟨es',h6.keep ts (fun o q=>k n5.symm q) fun e he o q=>let ⟨_,r,_⟩:=h6.l e he;k (bN r h3 qA) q⟩,n1,n2,n3,n4,n5,v1,v2⟩
end
def AlO (prs:List Pr2) (ks qs as:List An) (y w:An):Prop:=as.head?=some y/\as.getLast?=some w/\as.length % 2=0/\as.length<=200/\(∀ e∈bY as,e∈prs)/\(∀ e∈bS as,e∈prs)/\y∈qs/\w∈ks
def aJ0 (P:Program) (w:World) (b:Bool) (C:Addr):Sp:=fun vs H Q _=>∃ (x a c g v d q:Addr) (us:List V) (prs:List Pr2) (ks qs as:List An) (S:eW An) (y z:An),vs=[.ref x,.ref q]/\rJ P w b C H x a c g v d prs ks qs S/\LyO prs ks qs/\H q=some (.lst us)/\bC (cV b H) us as/\AlO prs ks qs as y z /\
 ∀ H',vE a c d H H'->rJ P w b C H' x a c g v d prs ks qs (kN S as y z (jU S as y z))->Q .non H'
def zQ (P:Program) (w:World) (b:Bool) (C:Addr):Sp:=fun vs H Q _=>∃ (x a c g v d:Addr) (prs:List Pr2) (ks qs:List An) (S:eW An) (o0 p0:An->Int) (f:Nat),vs=[.ref x]/\rJ P w b C H x a c g v d prs ks qs S/\LyO prs ks qs/\Fl prs ks qs o0 p0 S/\mN ks S<=(f:Int) /\
 ∀ H' dA,vE a c d H H'->rJ P w b C H' x a c g v d prs ks qs (fG prs ks ((fM ks qs).length+1) f S).1->AhH P w b H' dA (fG prs ks ((fM ks qs).length+1) f S).2->Q (.ref dA) H'
end Mine
namespace L2
open PySem PySem.Spec PyProof.Rows
theorem bX2 {A:Around}{k:Nat}(hr:bU k A):A.units+2 < cLine:=db (aBg (by decide:2<=64) _) hr.units
end L2
namespace Mine
open PySem L2
theorem rL {H:Hp}{x C dx:Addr}{fs fs':List (Str×V)}(h:H x=some (.ins C dx fs)):∃ G,aJ H x (.ins C dx fs')=G/\OfX x H G/\G x=some (.ins C dx fs')/\TS H G/\∀ c,c≠x->G c=H c:=⟨_,rfl,OfX.upd,aB,fun c xs q=>by rw [aE (bN q h (by intro z;cases z))];exact q,fun c n=>aE n⟩
theorem sF {H:Hp}{a:Addr}{o:HO}(_:H a=none):aJ H a o a=some o:=aB
theorem iA {b:Bool}{ks:List An}{f:An->Int}(h:∀ k∈ks,VA b k):∀ e∈dJ ks f,VA b e.1:=fun e he=>by
 obtain ⟨k,hk,rfl⟩:=am.mp he;exact h k hk
theorem tZ.va {b:Bool}{H:Hp}{g:Addr}{prs:List Pr2}{es:List (An×Addr)}(G:tZ b H g prs es):∀ e∈gL es,VA b e.1:=fun e he=>by
 obtain ⟨f,hf,rfl⟩:=am.mp he;exact G.v f hf
def PrZ (b:Bool) (H:Hp) (v:V) (e:Pr2):Prop:=∃ t q,v= .ref t/\H t=some (.tup [.ref q,.int 0])/\qY H (iT b e) q/\VP b e
theorem qY.ts {H H':Hp}(t:TS H H') {k:List NKey}{q:Addr}(h:qY H k q):qY H' k q:=by obtain ⟨vs,e,p⟩:=h;exact ⟨vs,t _ _ e,p.mono (fun _ _ z=>z.ts t)⟩
theorem PrZ.ts {b:Bool}{H H':Hp}(s:TS H H') {v:V}{e:Pr2}(h:PrZ b H v e):PrZ b H' v e:=by obtain ⟨t,q,e1,h1,h2,h3⟩:=h;exact ⟨t,q,e1,s _ _ h1,qY.ts s h2,h3⟩
theorem aP0 {b:Bool}{H:Hp}{ys:List V}{prs:List Pr2}(tw:bC (PrZ b H) ys prs):pQ H ys ((pN prs fun _=>0).map fun e=>(iT b e.1,e.2)):=by
 exists by rw [tw.length];unfold pN;rw [ae,ae],fun i e he=>?_;unfold pN at he;rw [cz,cp] at he
 cases q:prs[i]? with
 |none=>rw [q] at he;cases he
 |some z =>
  rw [q] at he
  cases he
  obtain ⟨v,hv,t,c,rfl,h1,h2,_⟩:=cY tw q;exact ⟨t,c,hv,h1,h2⟩
theorem aF0 {b:Bool}{H:Hp}{ys:List V}{prs:List Pr2}(tw:bC (PrZ b H) ys prs):∀ e∈pN prs fun _=>0,VP b e.1:=fun e he=>by
 obtain ⟨f,hf,rfl⟩:=am.mp he;obtain ⟨j,hj,ej⟩:=ij hf;obtain ⟨v,_,_,_,_,_,_,w⟩:=cY tw ((ak hj).trans (ed some ej));exact w
theorem bD8 (prs:List Pr2) (l:Pr2->Int):(pN prs l).map (·.1)=prs:=by
 unfold pN;rw [cz];exact wv _
theorem bT9 {b:Bool}{o:Obj}{u:HO}{l:List (An×V)}:HO.frz o u≠dB b l:=pU (by intro z q;cases q) (by intro z q;cases q)
theorem bX9 {b:Bool}{y:Addr}{l:List (An×V)}:HO.own y≠dB b l:=pU (by intro z q;cases q) (by intro z q;cases q)
theorem aR0 {P:Program}{w:World}{b:Bool}{G:Hp}{dA:Addr}{t:Addr}{ah:Ah An}{kvs:List (Pl An×V)}{z c:Pl An}{v:V}{W:Hp->Prop}(h3:QD P w b G dA kvs) (h4:xF b G kvs ah) (hz:z∉aV ah) (ht:PlT b G t z) (hv:AhV b G (some c) v) (lz:kvs.length < sizeLine)
  (k:∀ G',(∀ e,e≠dA->G' e=G e)->TS G G'->AhH P w b G' dA (ah++[(z,some c)])->W G'):aE2 P w G dA (.ref t) v W:=by
 obtain ⟨φ,hx⟩:=h3.ext;refine h3.put ht lz fun G' D o=>?_
 have ts:TS G G':=fun e xs q=>by rw [o e (bN q hx (by intro z;cases z))];exact q
 refine k G' o ts ?_;rw [jM _ ((h4.look (z:=z)).1 (jO.mp hz))] at D;exact ⟨_,D,(h4.ts ts).app (k2:=[(z,v)]) (a2:=[(z,some c)]) ⟨rfl,hv.ts ts,trivial⟩⟩
theorem aQ2 {ws:List V}{as:List An}{R:V->An->Prop}{w:An}(tw:bC R ws as) (h:as.getLast?=some w):∃ v,yJ ws (-1)=some v/\R v w:=by
 have h':as[as.length - 1]?=some w:=by rw [<- yb];exact h
 obtain ⟨v,hv,rv⟩:=cY tw h';exists v,?_,rv;have l:=tw.length;have ln:as.length - 1 < as.length:=(bw.mp h').1;have hw:ws.getLast?=some v:=by rw [yb,l];exact hv
 obtain ⟨ys,e⟩:=List.getLast?_eq_some_iff.mp hw;rw [e];exact bA8 ys v
theorem aU7 {ws:List V}{as:List An}{R:V->An->Prop}{y:An}(tw:bC R ws as) (h:as.head?=some y):∃ v,yJ ws 0=some v/\R v y:=by
 have h':as[0]?=some y:=by rw [<- List.head?_eq_getElem?];exact h
 obtain ⟨v,hv,rv⟩:=cY tw h';exact ⟨v,jB (j:=0) hv,rv⟩
theorem bK0 {α: Type} [DecidableEq α] {ah:Ah α}{x:α}(h:(true,x)∈aV ah):inR ah x=true:=ar h
theorem bS2 {α: Type} [DecidableEq α] {ah:Ah α}{x:α}(h:(true,x)∉aV ah):inR ah x=false:=dk h
def bU0 (fac:Int×Int) (e:En):En:=(e.1,cU fac e.2)
def bQ (fac:Int×Int) (es:List En):List En:=es.map (bU0 fac)
def jF (es1 es2:List En) (fac rest:Int×Int):Int:=qX ((es1++bQ fac es2).map (·.2)++[rest])
def xW (es1 es2:List En) (fac rest:Int×Int):eW An:=⟨bD es1 (jF es1 es2 fac rest),bD (bQ fac es2) (jF es1 es2 fac rest),fun _=>0⟩
def kG (prs:List Pr2) (es1 es2:List En) (fac rest:Int×Int):eW An×Ah An:=fG prs (es1.map (·.1)) ((fM (es1.map (·.1)) (es2.map (·.1))).length+1) (mN (es1.map (·.1)) (xW es1 es2 fac rest)).toNat (xW es1 es2 fac rest)
theorem jQ (fac:Int×Int) (es:List En):(bQ fac es).map (·.1)=es.map (·.1):=by
 unfold bQ;rw [cz];rfl
structure PaO (es1 es2:List En) (prs:List Pr2) (fac rest:Int×Int) (M:Int):Prop where
 ly:LyO prs (es1.map (·.1)) (es2.map (·.1))
 one:∀ e∈es1,kW e.2
 oth:∀ e∈es2,kW e.2
 fc:kW fac
 rs:kW rest
 d1:∀ e∈es1,e.2.2 ∣ M
 lm:∀ e∈bQ fac es2,0<=e.2.1/\1<=e.2.2/\e.2.1 < 2 ^ 180/\e.2.2 < 2 ^ 180/\e.2.2 ∣ M
 d3:rest.2 ∣ M
 m1:1<=M
 mb:M < 2 ^ 130
def pgL (zs:List (Pr2×Addr)):List (Pr2×V):=zs.map fun z=>(z.1,.ref z.2)
def PgE (b:Bool) (H:Hp) (v:V) (z:Pr2×Addr):Prop:=∃ t c,v= .ref t/\H t=some (.tup [.ref c,.ref z.2])/\qY H (iT b z.1) c/\VP b z.1
theorem PgE.ts {b:Bool}{H H':Hp}(s:TS H H') {v:V}{z:Pr2×Addr}(h:PgE b H v z):PgE b H' v z:=by obtain ⟨t,q,e1,h1,h2,h3⟩:=h;exact ⟨t,q,e1,s _ _ h1,qY.ts s h2,h3⟩
def PgH (P:Program) (w:World) (b:Bool) (H:Hp) (d:Addr) (ps:List Pr2) (f:Pr2->Int×Int):Prop:=∃ zs,PD P w b H d (pgL zs)/\zs.map (·.1)=ps/\∀ z∈zs,bP H z.2 (f z.1).1 (f z.1).2
theorem PgH.same {P:Program}{w:World}{b:Bool}{H H':Hp}{d:Addr}{ps:List Pr2}{f:Pr2->Int×Int}(s:aN H H') (h:PgH P w b H d ps f):PgH P w b H' d ps f:=by obtain ⟨zs,a,e,k⟩:=h;exact ⟨zs,a.keep (TS.of s) (fun _ q=>s _ _ q),e,fun z hz=>s _ _ (k z hz)⟩
theorem aV7 {b:Bool}{H:Hp}{ys:List V}{zs:List (Pr2×Addr)}(tw:bC (PgE b H) ys zs):pQ H ys ((pgL zs).map fun e=>(iT b e.1,e.2)):=by
 exists by rw [tw.length];unfold pgL;rw [ae,ae],fun i e he=>?_;unfold pgL at he;rw [cz,cp] at he
 cases q:zs[i]? with
 |none=>rw [q] at he;cases he
 |some z =>
  rw [q] at he
  cases he
  obtain ⟨v,hv,t,c,rfl,h1,h2,_⟩:=cY tw q;exact ⟨t,c,hv,h1,h2⟩
theorem aW0 {b:Bool}{H:Hp}{ys:List V}{zs:List (Pr2×Addr)}(tw:bC (PgE b H) ys zs):∀ e∈pgL zs,VP b e.1:=fun e he=>by
 obtain ⟨f,hf,rfl⟩:=am.mp he;obtain ⟨j,hj,ej⟩:=ij hf;obtain ⟨v,_,_,_,_,_,_,w⟩:=cY tw ((ak hj).trans (ed some ej));exact w
theorem aU3 (zs:List (Pr2×Addr)):(pgL zs).map (·.1)=zs.map (·.1):=by
 unfold pgL;rw [cz];rfl
def vU (prs:List Pr2) (es1 es2:List En) (fac rest:Int×Int) (e:Pr2):Int×Int:=aK ((kG prs es1 es2 fac rest).1.l e) (jF es1 es2 fac rest)
def zU (prs:List Pr2) (es1 es2:List En) (fac rest:Int×Int):List Pr2:=prs.filter fun e=>decide (0 < (kG prs es1 es2 fac rest).1.l e)
def aC2 (prs:List Pr2) (es1 es2:List En) (fac rest:Int×Int):Int:=mN (es1.map (·.1)) (kG prs es1 es2 fac rest).1
def wT (prs:List Pr2) (es1 es2:List En) (fac rest:Int×Int):Prop:=aC2 prs es1 es2 fac rest<=iD rest (jF es1 es2 fac rest)
def bK3 (prs:List Pr2) (es1 es2:List En) (fac rest:Int×Int):List An:=(es1.map (·.1)).filter (inR (kG prs es1 es2 fac rest).2)
def cC1 (P:Program) (w:World) (b:Bool) (H:Hp) (r:Addr) (prs:List Pr2) (es1 es2:List En) (fac rest:Int×Int):Prop :=
 (wT prs es1 es2 fac rest/\∃ d,H r=some (.tup [.str "paired",.ref d])/\PgH P w b H d (zU prs es1 es2 fac rest) (vU prs es1 es2 fac rest)) \/
 (¬ wT prs es1 es2 fac rest/\∃ t us,H r=some (.tup [.str "broken",.ref t])/\H t=some (.tup us)/\bC (cV b H) us (bK3 prs es1 es2 fac rest))
def aT9 (P:Program) (w:World) (b:Bool):Sp:=fun vs H Q _=>∃ (p1 p2 p3 p4 p5:Addr) (ws1 ws2 ws3:List V) (es1 es2:List En) (prs:List Pr2) (fac rest:Int×Int) (M:Int),vs=[.ref p1,.ref p2,.ref p3,.ref p4,.ref p5] /\
 H p1=some (.tup ws1)/\bC (nZ b H) ws1 es1/\H p2=some (.tup ws2)/\bC (nZ b H) ws2 es2/\H p3=some (.tup ws3)/\bC (jJ b H) ws3 prs/\bP H p4 fac.1 fac.2/\bP H p5 rest.1 rest.2/\PaO es1 es2 prs fac rest M /\
 ∀ H' r,aN H H'->cC1 P w b H' r prs es1 es2 fac rest->Q (.ref r) H'
theorem aD9 {b:Bool}{H:Hp}{ws:List V}{es:List En}(tw:bC (nZ b H) ws es):∀ k∈es.map (·.1),VA b k:=fun k hk=>by
 obtain ⟨e,he,rfl⟩:=am.mp hk;obtain ⟨j,hj,ej⟩:=ij he;obtain ⟨v,_,_,_,_,_,_,w,_⟩:=cY tw ((ak hj).trans (ed some ej));exact w.va
variable {es1 es2:List En}{prs:List Pr2}{fac rest:Int×Int}{M:Int}
theorem PaO.fr (O:PaO es1 es2 prs fac rest M):∀ u∈(es1++bQ fac es2).map (·.2)++[rest],1<=u.2/\u.2 ∣ M:=fun u hu=>by
 rcases cj.mp hu with h | h
 ·obtain ⟨e,he,rfl⟩:=am.mp h;rcases cj.mp he with q | q
  ·exact ⟨(O.one e q).2.2,O.d1 e q⟩
  ·have:=O.lm _ q;exact ⟨this.2.1,this.2.2.2.2⟩
 ·rw [ck.mp h];exact ⟨O.rs.2.2,O.d3⟩
theorem PaO.bot (O:PaO es1 es2 prs fac rest M):1<=jF es1 es2 fac rest/\jF es1 es2 fac rest ∣ M/\jF es1 es2 fac rest < 2 ^ 130/\(∀ e∈es1,e.2.2 ∣ jF es1 es2 fac rest)/\(∀ e∈bQ fac es2,e.2.2 ∣ jF es1 es2 fac rest)/\rest.2 ∣ jF es1 es2 fac rest:=by
 have:=pR (fun u hu=>(O.fr u hu).1) (fun u hu=>(O.fr u hu).2) ((es1++bQ fac es2).map (·.2)++[rest]).length;rw [be] at this;obtain ⟨a,b,c⟩:=this;exists a,c,iu (aBd (by have:=O.m1;omega) c) O.mb,fun e he=>?_,fun e he=>?_,b rest (dh _ (ck.mpr rfl))
 ·exact b e.2 (cj.mpr (.inl (am.mpr ⟨e,cj.mpr (.inl he),rfl⟩)))
 ·exact b e.2 (cj.mpr (.inl (am.mpr ⟨e,cj.mpr (.inr he),rfl⟩)))
theorem jY.bits {a:Int}(h:jY a):hU 2000 a:=rT h.1 h.2 (by decide)
theorem aM2 {a:Int}(h0:0<=a) (h:a < 2 ^ 130):hU 2000 a:=rT h0 h (by decide)
theorem PaO.am1 (O:PaO es1 es2 prs fac rest M):(es1.map (·.1)).Nodup/\es1.length<=100/\∀ e∈es1,1<=e.2.2/\hU 2000 e.2.1/\hU 2000 e.2.2:=by
 have z:=O.ly.zk;rw [ae] at z;exact ⟨O.ly.nk,∅,fun e he=>⟨(O.one e he).2.2,(O.one e he).1.bits,(O.one e he).2.1.bits⟩⟩
theorem PaO.am2 (O:PaO es1 es2 prs fac rest M):((bQ fac es2).map (·.1)).Nodup/\(bQ fac es2).length<=100/\∀ e∈bQ fac es2,1<=e.2.2/\hU 2000 e.2.1/\hU 2000 e.2.2:=by
 have z:=O.ly.zq;rw [ae] at z;exact ⟨by rw [jQ];exact O.ly.nq,by unfold bQ;rw [ae];omega,fun e he=>⟨(O.lm _ he).2.1,rT (O.lm _ he).1 (O.lm _ he).2.2.1 (by decide),rT (by have:=(O.lm _ he).2.1;omega) (O.lm _ he).2.2.2.1 (by decide)⟩⟩
theorem bV1 {u:Int×Int}{b:Int}(h:0<=u.1) (h2:1<=u.2) (hb:0<=b):0<=iD u b:=dt h (rh hb ∅)
theorem vB {es:List En}{b:Int}(h:∀ e∈es,0<=e.2.1/\1<=e.2.2) (hb:0<=b) (k:An):0<=bD es b k:=by
 unfold bD
 cases e:es.find? fun e=>decide (e.1=k) with
 |none=>exact gi _
 |some u=>have:=h u (pe e);exact bV1 this.1 this.2 hb
theorem PaO.fl (O:PaO es1 es2 prs fac rest M):Fl prs (es1.map (·.1)) (es2.map (·.1)) (bD es1 (jF es1 es2 fac rest)) (bD (bQ fac es2) (jF es1 es2 fac rest)) (xW es1 es2 fac rest):=by
 obtain ⟨b1,_,b3,_,_⟩:=O.bot;have z {q:Pr2->Bool}:((prs.filter q).map fun _=>(0:Int)).sum=0:=eK fun _ _=>rfl
 exact ⟨fun x _=>vB (fun e he=>⟨(O.one e he).1.1,(O.one e he).2.2⟩) ∅ x,fun x _=>vB (fun e he=>⟨(O.lm _ he).1,(O.lm _ he).2.1⟩) ∅ x,fun _ _=>gi 0,fun x=>by unfold fO xW;dsimp only;rw [z];omega,fun x=>by unfold fQ xW;dsimp only;rw [z];omega⟩
theorem PaO.end_ (O:PaO es1 es2 prs fac rest M):Fl prs (es1.map (·.1)) (es2.map (·.1)) (bD es1 (jF es1 es2 fac rest)) (bD (bQ fac es2) (jF es1 es2 fac rest)) (kG prs es1 es2 fac rest).1/\zF prs (es1.map (·.1)) (kG prs es1 es2 fac rest).1 (kG prs es1 es2 fac rest).2 :=
 wZ O.ly.pr O.ly.nk O.ly.nd _ _ O.fl (by have:=mI O.fl.o;omega)
end Mine
namespace L2
open PySem PySem.Spec PyProof.Rows
def bF7 (K:W.Frag) (neg:Bool):R2:=fun x y H Q=>∃ ds d,fN K H (.tuple ds) y/\fN K H d x/\SeqAt.shaped (.tuple ds)=true/\SeqAt.shaped d=true/\(∀ e∈ds,SeqAt.noMix e d=true)/\Q (.bl (if neg then !decide (Spec.countIn d ds≠0) else decide (Spec.countIn d ds≠0))) H
theorem aD2 {X:Cx}{k:Nat}(K:W.Frag) (hr:bU k X.A) (hK:autoParam (X.K=K) Rq0._auto_1):jX X (compareOp .In) (bF7 K false):=by
 subst hK;intro pins s σ H x y v u Q I rx ry h;obtain ⟨ds,d,hd,he,sd,se,mx,q⟩:=h;obtain ⟨as,ra⟩:=fN.reads I _ y u hd ry;obtain ⟨bs,rb⟩:=fN.reads I d x v he rx;exact in_tuple_dataH ra rb sd se (by have:=hr.un;omega) mx ⟨.bl _,H,I,rfl,q⟩
theorem bH3 {X:Cx}{k:Nat}(K:W.Frag) (hr:bU k X.A) (hK:autoParam (X.K=K) Rq0._auto_1):jX X (compareOp .NotIn) (bF7 K true):=by
 subst hK;intro pins s σ H x y v u Q I rx ry h;obtain ⟨ds,d,hd,he,sd,se,mx,q⟩:=h;obtain ⟨as,ra⟩:=fN.reads I _ y u hd ry;obtain ⟨bs,rb⟩:=fN.reads I d x v he rx;exact notIn_tuple_dataH ra rb sd se (by have:=hr.un;omega) mx ⟨.bl _,H,I,rfl,q⟩
end L2
namespace Mine
open PySem L2
theorem oM {b:Bool}{x a:An}(hx:VA b x) (ha:VA b a):Spec.same (cB b x) (cB b a)=true↔x=a:=by
 cases b with
 |true =>
  simp only [cB,if_true,Spec.same];rw [pG];exact decide_eq_true_iff
 |false =>
  obtain ⟨n,rfl⟩:=hx.resolve_left (by decide);obtain ⟨m,rfl⟩:=ha.resolve_left (by decide);simp [cB,Spec.same]
theorem uL (b:Bool) (x a:An):SeqAt.noMix (cB b x) (cB b a)=true:=by
 cases b
 ·simp [cB,SeqAt.noMix]
 ·simp only [cB,if_true,SeqAt.noMix];exact nI _ _
theorem pK (b:Bool) (a:An):SeqAt.shaped (cB b a)=true:=by
 have h:=oC b [a];simp only [List.map_cons,List.map_nil,PyData.canLayAll0,PyData.depthAll,Bool.and_true] at h;simp only [SeqAt.shaped,h.1,Bool.true_and];exact ar (by have:=h.2;omega)
theorem sI (b:Bool) (as:List An):SeqAt.shaped (.tuple (as.map (cB b)))=true:=by
 obtain ⟨h1,h2⟩:=oC b as;simp only [SeqAt.shaped,PyData.canLay0,h1,Bool.true_and];exact ar (by simp only [PyData.depth];omega)
theorem nA {α: Type}{D:α->PyData}{p:α->Prop}{a:α}(hs:∀ x,p x->(Spec.same (D x) (D a)=true↔x=a)):∀ as:List α,(∀ x∈as,p x)->((Spec.countIn (D a) (as.map D)≠0)↔a∈as)
 |[],_=>by simp [Spec.countIn]
 |x :: r,h=>by
  have ih:=nA hs r fun y hy=>h y (ba _ hy)
  have hs':=hs x (h x bj);have nn:0<=Spec.countIn (D a) (r.map D):=ym _ _;rw [au,Spec.countIn,bo, <- ih]
  by_cases c:x=a
  ·rw [bh (hs'.mpr c)]
   constructor
   ·intro _;exact .inl c.symm
   ·intro _;omega
  ·rw [ap fun z=>c (hs'.mp z)]
   constructor
   ·intro h;exact .inr ∅
   ·rintro (h | h)
    ·exact absurd h.symm c
    ·omega
theorem yG {b:Bool}{H:Hp}{us:List V}{as:List An}(tw:bC (cV b H) us as):∀ a∈as,VA b a:=fun a ha=>by
 obtain ⟨j,hj,ej⟩:=ij ha;obtain ⟨v,_,w⟩:=cY tw ((ak hj).trans (ed some ej));exact w.va
section
variable {K:W.Frag}{b:Bool}{H:Hp}{Q:VK}
theorem aG6 {t:Addr}{us:List V}{as:List An}{v:V}{a:An}(h:H t=some (.tup us)) (tw:bC (cV b H) us as) (hv:cV b H v a) (q:Q (.bl (decide (a∈as))) H):bF7 K false v (.ref t) H Q:=by
 exists as.map (cB b),cB b a,bJ7 h tw,iY hv,sI b as,pK b a,fun e he=>?_,?_
 ·obtain ⟨x,_,rfl⟩:=am.mp he;exact uL b x a
 ·have c:=nA (D:=cB b) (p:=VA b) (a:=a) (fun x hx=>oM hx hv.va) as (yG tw);rw [show (if false=true then !decide (Spec.countIn (cB b a) (as.map (cB b))≠0) else decide (Spec.countIn (cB b a) (as.map (cB b))≠0))=decide (a∈as) from pj.mpr c];exact q
theorem bE6 {v u:V}{a c:An}(h1:cV b H v a) (h2:cV b H u c) (q:Q (.bl (decide (a=c))) H):aR8 K false v u H Q:=by
 exists cB b a,cB b c,iY h1,iY h2,pK b a,pK b c,uL b a c,?_;rw [show (if false=true then !Spec.same (cB b a) (cB b c) else Spec.same (cB b a) (cB b c))=decide (a=c) by
  by_cases e:a=c
  ·rw [ar e];exact (oM h1.va h2.va).mpr e
  ·rw [dk e];exact oq.mpr fun z=>e ((oM h1.va h2.va).mp z)]
 exact q
theorem bT0 {p q:Addr}{us:List V}{as:List An}(h:H p=some (.lst us)) (tw:bC (cV b H) us as) (hq:H q=some (.lst [])) (k:Q (.bl (!decide (as=[]))) H):aR8 K true (.ref p) (.ref q) H Q:=by
 exists .list (as.map (cB b)),.list [],kZ h tw,⟨q,[],rfl,bK.of hq,rfl⟩,iN b as,nB,pJ,?_;rw [bh rfl,lF];rw [show decide (as.map (cB b)=[])=decide (as=[]) from pj.mpr (by rw [wg])];exact k
theorem kD {b:Bool}:∀ {as cs:List An},(∀ a∈as,VA b a)->(∀ a∈cs,VA b a)->(Spec.sameAll (as.map (cB b)) (cs.map (cB b))=true↔as=cs)
 |[],[],_,_=>by simp [Spec.sameAll]
 |[],_ :: _,_,_=>by simp [Spec.sameAll]
 |_ :: _,[],_,_=>by simp [Spec.sameAll]
 |a :: as,c :: cs,h1,h2=>by
  have ih:=kD (fun x hx=>h1 x (ba _ hx)) (fun x hx=>h2 x (ba _ hx)) (as:=as) (cs:=cs);have hs:=oM (h1 a bj) (h2 c bj);rw [au,au,Spec.sameAll,ig,hs,ih,List.cons.injEq]
theorem qC (b:Bool):∀ as cs:List An,SeqAt.noMixAll (as.map (cB b)) (cs.map (cB b))=true
 |[],[]=>by simp [SeqAt.noMixAll]
 |[],_ :: _=>by simp [SeqAt.noMixAll]
 |_ :: _,[]=>by simp [SeqAt.noMixAll]
 |a :: as,c :: cs=>by
  rw [au,au,SeqAt.noMixAll,ig];exact ⟨uL b a c,qC b as cs⟩
theorem bD5 {p q:Addr}{us ws:List V}{as cs:List An}(h:H p=some (.lst us)) (tw:bC (cV b H) us as) (h2:H q=some (.lst ws)) (tw2:bC (cV b H) ws cs) (k:Q (.bl (!decide (as=cs))) H):aR8 K true (.ref p) (.ref q) H Q:=by
 exists .list (as.map (cB b)),.list (cs.map (cB b)),kZ h tw,kZ h2 tw2,iN b as,iN b cs,by rw [SeqAt.noMix];exact qC b as cs,?_;rw [bh rfl];rw [show Spec.same (.list (as.map (cB b))) (.list (cs.map (cB b)))=decide (as=cs) by
  rw [Spec.same];have:=kD (yG tw) (yG tw2)
  by_cases e:as=cs
  ·rw [ar e];exact this.mpr e
  ·rw [dk e];exact oq.mpr fun z=>e (this.mp z)]
 exact k
def dP (b:Bool) (e:Pr2):PyData:= .tuple [cB b e.1,cB b e.2]
theorem zV {v:V}{e:Pr2}(h:jJ b H v e):fN K H (dP b e) v:=by
 obtain ⟨t,u,w,rfl,h1,h2,h3⟩:=h;exact ⟨t,[u,w],rfl,aT.of h1,u,[w],rfl,iY h2,w,[],rfl,iY h3,rfl⟩
theorem aB1 (b:Bool):∀ es:List Pr2,PyData.canLayAll0 (es.map (dP b))=true/\PyData.depthAll (es.map (dP b))<=2
 |[]=>⟨rfl,df _⟩
 |e :: r=>by
  obtain ⟨h1,h2⟩:=aB1 b r;have a:=oC b [e.1,e.2];simp only [List.map_cons,List.map_nil] at a;exists ?_,?_
  ·rw [au,PyData.canLayAll0,ig];exact ⟨by simp only [dP,PyData.canLay0];exact a.1,h1⟩
  ·rw [au,PyData.depthAll];have:(dP b e).depth<=2:=by simp only [dP,PyData.depth];have:=a.2;omega
   omega
theorem uV (b:Bool) (es:List Pr2):SeqAt.shaped (.tuple (es.map (dP b)))=true:=by
 obtain ⟨h1,h2⟩:=aB1 b es;simp only [SeqAt.shaped,PyData.canLay0,h1,Bool.true_and];exact ar (by simp only [PyData.depth];omega)
theorem aQ1 (b:Bool) (e:Pr2):SeqAt.shaped (dP b e)=true:=by
 have h:=sI b [e.1,e.2];exact h
theorem bI5 {t:Addr}{ws:List V}{prs:List Pr2}(h:H t=some (.tup ws)) (tw:bC (jJ b H) ws prs):fN K H (.tuple (prs.map (dP b))) (.ref t) :=
 ⟨t,ws,rfl,aT.of h,tw.rep fun _ _ z=>zV z⟩
theorem aZ3 {b:Bool}{x y:An}(h1:VA b x) (h2:VA b y):∀ a∈[x,y],VA b a:=fun a ha=>by
 rcases bo.mp ha with q | q
 ·rw [q];exact h1
 ·rw [ck.mp q];exact h2
theorem bA1 {b:Bool}{x e:Pr2}(hx:VP b x) (he:VP b e):Spec.same (dP b x) (dP b e)=true↔x=e:=by
 have:=kD (b:=b) (as:=[x.1,x.2]) (cs:=[e.1,e.2]) (aZ3 hx.1 hx.2) (aZ3 he.1 he.2);have e1:Spec.same (dP b x) (dP b e)=Spec.sameAll ([x.1,x.2].map (cB b)) ([e.1,e.2].map (cB b)):=by simp only [dP,Spec.same,List.map_cons,List.map_nil]
 rw [e1,this]
 constructor
 ·intro h;injection h with h1 h2
  injection h2 with h2 _
  exact wo h1 h2
 ·intro h;rw [h]
theorem bQ7 {t:Addr}{ws:List V}{prs:List Pr2}{v:V}{e:Pr2}(h:H t=some (.tup ws)) (tw:bC (jJ b H) ws prs) (hv:jJ b H v e) (q:Q (.bl (!decide (e∈prs))) H):bF7 K true v (.ref t) H Q:=by
 exists prs.map (dP b),dP b e,bI5 h tw,zV hv,uV b prs,aQ1 b e,fun d hd=>?_,?_
 ·obtain ⟨x,_,rfl⟩:=am.mp hd;simp only [dP,SeqAt.noMix];exact qC b [x.1,x.2] [e.1,e.2]
 ·have c:=nA (D:=dP b) (p:=VP b) (a:=e) (fun x hx=>bA1 hx hv.va) prs (fun x hx=>by
   obtain ⟨j,hj,ej⟩:=ij hx;obtain ⟨v,_,w⟩:=cY tw ((ak hj).trans (ed some ej));exact w.va)
  rw [bh rfl,show decide (Spec.countIn (dP b e) (prs.map (dP b))≠0)=decide (e∈prs) from pj.mpr c];exact q
end
theorem aW4 {b:Bool}{H:Hp}{v:V}{a:An}(ha:VA b a) (h:aH5 H (enc b a) v):cV b H v a:=by
 cases b with
 |true =>
  obtain ⟨c,e,h⟩:=h;exact ⟨c,e,by rw [<- pO];exact h⟩
 |false =>
  obtain ⟨n,rfl⟩:=ha.resolve_left (by decide);exact ⟨n,rfl,h⟩
theorem bY3 {b:Bool}{H:Hp}{t:Addr}{e:Pr2}(he:VP b e) (h:qY H (iT b e) t):jJ b H (.ref t) e:=by
 obtain ⟨vs,h1,p⟩:=h;unfold iT at p
 cases p with
 |cons p1 p2 =>
  cases p2 with
  |cons p2 p3 =>
   cases p3
   exact ⟨t,_,_,rfl,h1,aW4 he.1 p1,aW4 he.2 p2⟩
theorem PgH.walk {P:Program}{w:World}{b:Bool}{H:Hp}{d:Addr}{ps:List Pr2}{f:Pr2->Int×Int}(h:PgH P w b H d ps f):∃ xs:List NE,H d=some (dN P w d xs)/\xs.length=ps.length/\(∀ (i:Nat) (x:NE),xs[i]?=some x->∃ e q,ps[i]?=some e/\x.2.2= .ref q/\bP H q (f e).1 (f e).2/\jJ b H (.ref x.2.1) e):=by
 obtain ⟨zs,⟨⟨xs,h1,h2,h3⟩,h4⟩,h5,h6⟩:=h;have ln:xs.length=zs.length:=by
  have:=ed List.length h2;unfold pgL yI at this
  simpa using this
 exists xs,h1,by rw [ln, <- h5,ae],fun i x hx=>?_;have li:=(bw.mp hx).1;have lz:i < zs.length:=∅
 have e2:(yI xs)[i]?=((pgL zs).map fun e=>(iT b e.1,e.2))[i]?:=by rw [h2]
 unfold yI pgL at e2;rw [cp,cz,cp,hx,ak lz] at e2;have e2:=dm e2;have k1:x.1=iT b zs[i].1:=ed Prod.fst e2;have k2:x.2.2= .ref zs[i].2:=ed Prod.snd e2;have mz:zs[i]∈zs:=jz lz;have va:=h4 (zs[i].1,.ref zs[i].2) (am.mpr ⟨zs[i],mz,rfl⟩);have na:=h3 x (bq hx);rw [k1] at na;exact ⟨zs[i].1,zs[i].2,by rw [<- h5,cp,ak lz];rfl,k2,h6 _ mz,bY3 va na⟩
theorem aJ2 {H G:Hp}{a:Addr}{o:Obj}{u:HO}(ha:H a=some u) (s:aN (aJ H a (.frz o u)) G):aN H (aJ G a u):=fun c q e=>by
 by_cases ca:c=a
 ·subst ca;rw [ha] at e;rw [aB];exact e
 ·rw [aE ca];exact s _ _ (by rw [aE ca];exact e)
theorem gN {H:Hp}{a:Addr}{o:Obj}{φ: Heap->Prop}(ha:H a=some (.ext φ)):TS H (aJ H a (.frz o (.ext φ))):=fun c xs q=>by rw [aE (bN q ha (by intro z;cases z))];exact q
theorem uI {a c:Int}(ha:0<=a) (hc:1<=c):aK (aK a c).1 (aK a c).2=aK a c:=by
 have:=aX0 ha hc
 rwa [zx,zx] at this
theorem gR {a c:Int}(hc:1<=c):(aK a c).2 ∣ c:=by
 have dv:=rO (a:=a) (b:=c) ∅;exact ⟨gI a c,by show c=eQ a c * gI a c;unfold eQ;rw [re dv]⟩
theorem oA {a c M:Int}(ha:0<=a) (hc:1<=c) (hM:1<=M) (h:c ∣ M):aK a c=aK (a * (M / c)) M:=by
 obtain ⟨k,rfl⟩:=h;have k0:0<=k:=by
  by_cases q:0<=k
  ·exact q
  ·have:=ii (show k<= -1 by omega) (show 0<=c by omega);omega
 rw [ko _ ∅];exact fS ha hc (dt ha k0) hM (by grind)
theorem bH4 {a c M:Int}(ha:0<=a) (hc:1<=c) (hM:1<=M) (h:(aK a c).2 ∣ M):aK a c=aK (iD (aK a c) M) M:=by
 have:=oA (a:=(aK a c).1) (c:=(aK a c).2) (dS ha) (cX hc) hM h
 rwa [uI ha hc] at this
theorem rW {m M:Int}(hm:0<=m) (hM:1<=M):iD (aK m M) M=m:=by
 have r:=dH hm hM;have p:=cX (a:=m) hM;obtain ⟨k,e⟩:=gR (a:=m) hM;unfold iD;have p':1<=(aK m M).2:=p;generalize (aK m M).1=x at *;generalize (aK m M).2=y at *;rw [e,ko _ ∅];rw [e] at r;refine xj (a:=y) ∅ ?_
 grind
theorem vO {u:Int×Int}{bt M:Int}(h0:1<=u.2) (h1:u.2 ∣ bt) (h2:bt ∣ M) (hb:1<=bt):iD u M=iD u bt * (M / bt):=by
 obtain ⟨s,rfl⟩:=h1;obtain ⟨k,rfl⟩:=h2;unfold iD;rw [ko _ ∅,ko _ ∅,Int.mul_assoc u.2,ko _ ∅,Int.mul_assoc]
theorem jL {es:List En}{bt M:Int}(h:∀ e∈es,1<=e.2.2/\e.2.2 ∣ bt) (h2:bt ∣ M) (hb:1<=bt) (x:An):bD es M x=bD es bt x * (M / bt):=by
 unfold bD
 cases e:es.find? fun e=>decide (e.1=x) with
 |none=>simp
 |some u=>exact vO (h u (pe e)).1 (h u (pe e)).2 h2 hb
theorem gQ {m n M:Int}(hm:0<=m) (hn:0<=n) (hM:1<=M):ltF (aK m M) (aK n M)=decide (m < n):=by
 have p:1<=(aK m M).2:=cX hM;rw [bT6 p hn hM];have r:=dH hm hM;unfold ltF;rw [pj]
 dsimp only
 rw [r];exact ⟨fun h=>qv h ∅,fun h=>jo h ∅⟩
theorem zP {a c M:Int}(hc:0<=c) (h:c<=a) (hM:1<=M):aQ0 (aK a M) (aK c M)=aK (a - c) M:=by
 have r1:=dH (show 0<=a by omega) hM;have r2:=dH hc hM;have p1:1<=(aK a M).2:=cX hM;have p2:1<=(aK c M).2:=cX hM;unfold aQ0;generalize (aK a M).1=x at *;generalize (aK a M).2=y at *;generalize (aK c M).1=z at *;generalize (aK c M).2=t at *;have e:(x * t - z * y) * M=(a - c) * (y * t):=by grind
 refine fS ?_ (dD p1 p2) ∅ hM e;have n:0<=(a - c) * (y * t):=dt ∅ (by have:=dD p1 p2;omega);rw [<- e] at n;exact Int.nonneg_of_mul_nonneg_left n ∅
theorem bL8 {f:Int×Int}{n c:Int}(f0:0<=f.1) (f1:1<=f.2) (hn:0<=n) (hc:1<=c):cU f (aK n c)=aK (f.1 * n) (f.2 * c):=by
 have r:=dH hn hc;have p:1<=(aK n c).2:=cX hc;have q:0<=(aK n c).1:=dS hn;unfold cU;generalize (aK n c).1=x at *;generalize (aK n c).2=y at *;exact fS (dt f0 q) (dD f1 p) (dt f0 hn) (dD f1 hc) (by grind)
theorem dC {β: Type}(f:β->Int) (k:Int):∀ l:List β,(l.map fun x=>f x * k).sum=(l.map f).sum * k
 |[]=>by simp
 |x :: r=>by rw [au,di,au,di,dC f k r,aCc]
theorem oV {β: Type}{f g:β->Int}:∀ {l:List β},(∀ x∈l,f x<=g x)->(l.map f).sum<=(l.map g).sum
 |[],_=>gi _
 |x :: r,h=>by
  rw [au,di,au,di];have:=h x bj;have:=oV (l:=r) fun y hy=>h y (ba _ hy)
  omega
theorem hJ {β: Type}{f:β->Int}{l:List β}(h:∀ x∈l,0<=f x):0<=(l.map f).sum:=by
 have:=oV (f:=fun _=>(0:Int)) h
 rwa [eK fun _ _=>rfl] at this
theorem uT {β: Type}{f:β->Int}(q:β->Bool) {l:List β}(h:∀ x∈l,0<=f x):((l.filter q).map f).sum<=(l.map f).sum:=by
 rw [gP];refine oV fun x hx=>?_
 split
 ·exact gi _
 ·exact h x hx
theorem lE {M:Int}(M1:1<=M) (M2:M < 2 ^ 130):∀ (ms:List Int) (S:Int),0<=S->(∀ m∈ms,0<=m)->S+ms.sum < 2 ^ 180 ->
  qJ (aK S M) (ms.map fun m=>aK m M)/\(ms.map fun m=>aK m M).foldl jI (aK S M)=aK (S+ms.sum) M
 |[],S,h0,_,h1=>⟨trivial,by simp⟩
 |x :: r,S,h0,hx,h1=>by
  rw [di] at h1;have x0:=hx x bj;have hr:∀ m∈r,0<=m:=fun m hm=>hx m (ba _ hm)
  have rs:0<=r.sum:=by have:=hJ (f:=fun x:Int=>x) hr;simpa using this
  have a:=eS h0 x0 M1;have ih:=lE M1 M2 r (S+x) ∅ hr ∅;rw [au,jd,a,di];refine ⟨⟨pH h0 ∅ M1 ∅,pH x0 ∅ M1 ∅,?_⟩,by rw [ih.2,Int.add_assoc]⟩;show qJ (jI (aK S M) (aK x M)) _;rw [a];exact ih.1
structure gS (c1 c2:Int) (es1 es2:List En) (fac:Int×Int) (M:Int):Prop where
 o1:eE c1 es1
 o2:eE c2 es2
 of:lW fac
 d:c1 * (fac.2 * c2) ∣ M
 m1:1<=M
 m2:M < 2 ^ 130
theorem nM {es:List En}{b:Int}{x:An}(h:x∉es.map (·.1)):bD es b x=0:=by
 unfold bD;have:es.find? (fun e=>decide (e.1=x))=none:=nh.mpr fun e he q=>h (am.mpr ⟨e,he,cf q⟩)
 rw [this]
variable {c1 c2:Int}{es1 es2:List En}{fac:Int×Int}{M:Int}
theorem gS.c1M (Z:gS c1 c2 es1 es2 fac M):c1 ∣ M:=qw (xx _ _) Z.d
theorem gS.c2M (Z:gS c1 c2 es1 es2 fac M):fac.2 * c2 ∣ M:=qw (Int.dvd_mul_left _ _) Z.d
theorem rY {c:Int}{es:List En}(T:eE c es) {e:En}(he:e∈es):∃ w,1<=w/\w<=c/\e.2=aK w c/\bD es c e.1=w:=by
 obtain ⟨w,w1,w2,ew⟩:=T.sh e he;exact ⟨w,w1,w2,ew,by rw [pY T.nd he,ew,rW ∅ T.c1]⟩
theorem rG {c:Int}{es:List En}(T:eE c es):((es.map (·.1)).map (bD es c)).sum=c:=by
 obtain ⟨ws,e,s,p⟩:=T.sm;rw [cz,show es.map (bD es c ∘ fun x=>x.1)=es.map (fun e=>iD e.2 c) from ik fun x hx=>pY T.nd hx];rw [show es.map (fun e=>iD e.2 c)=(es.map (·.2)).map fun u=>iD u c by rw [cz];rfl,e,cz];rw [show ws.map ((fun u=>iD u c) ∘ fun w=>aK w c)=ws from (ik fun w hw=>rW (by have:=p w hw;omega) T.c1).trans (wv _)];exact s
theorem gS.one (Z:gS c1 c2 es1 es2 fac M) {e:En}(he:e∈es1):e.2=aK (bD es1 M e.1) M/\1<=bD es1 M e.1/\e.2.2 ∣ M:=by
 obtain ⟨w,w1,w2,ew,_⟩:=rY Z.o1 he;have dv:e.2.2 ∣ M:=by rw [ew];exact qw (gR Z.o1.c1) Z.c1M
 have ea:e.2=aK (bD es1 M e.1) M:=by
  rw [pY Z.o1.nd he,ew];rw [ew] at dv;exact bH4 ∅ Z.o1.c1 Z.m1 dv
 exists ea,?_,dv;rw [pY Z.o1.nd he];unfold iD;have p1:1<=e.2.1:=(Z.o1.at he).2;have p2:1<=e.2.2:=(Z.o1.at he).1.b;have:=qy (show 0 < M by have:=Z.m1;omega) ∅ dv;exact dD p1 ∅
theorem gS.sc1 (Z:gS c1 c2 es1 es2 fac M) (x:An):bD es1 M x=bD es1 c1 x * (M / c1):=jL (fun e he=>⟨(Z.o1.at he).1.b,by obtain ⟨w,w1,w2,ew,_⟩:=rY Z.o1 he;rw [ew];exact gR Z.o1.c1⟩) Z.c1M Z.o1.c1 x
theorem gS.sum1 (Z:gS c1 c2 es1 es2 fac M):((es1.map (·.1)).map (bD es1 M)).sum=M:=by
 rw [aY fun x _=>Z.sc1 x,dC,rG Z.o1];exact aAz Z.c1M
theorem gS.nn1 (Z:gS c1 c2 es1 es2 fac M) (x:An):0<=bD es1 M x:=vB (fun e he=>⟨by have:=(Z.o1.at he).2;omega,(Z.o1.at he).1.b⟩) (by have:=Z.m1;omega) x
theorem gS.lim (Z:gS c1 c2 es1 es2 fac M) {n:Int}(hn:0<=n):cU fac (aK n c2)=aK (fac.1 * n * (M / (fac.2 * c2))) M:=by
 rw [bL8 Z.of.a Z.of.b hn Z.o2.c1];exact oA (dt Z.of.a hn) (dD Z.of.b Z.o2.c1) Z.m1 Z.c2M
theorem gS.k0 (Z:gS c1 c2 es1 es2 fac M):0<=M / (fac.2 * c2):=rh (by have:=Z.m1;omega) (by have:=dD Z.of.b Z.o2.c1;omega)
theorem bF1 {es:List En}(nd:(es.map (·.1)).Nodup) {e:En}(he:e∈es) {b:Int}:bD (bQ fac es) b e.1=iD (cU fac e.2) b :=
 pY (es:=bQ fac es) (e:=bU0 fac e) (by rw [jQ];exact nd) (am.mpr ⟨e,he,rfl⟩)
theorem gS.two (Z:gS c1 c2 es1 es2 fac M) (y:An):bD (bQ fac es2) M y=fac.1 * bD es2 c2 y * (M / (fac.2 * c2)):=by
 by_cases h:y∈es2.map (·.1)
 ·obtain ⟨e,he,rfl⟩:=am.mp h;obtain ⟨w,w1,w2,ew,ea⟩:=rY Z.o2 he;rw [bF1 Z.o2.nd he,ea,ew,Z.lim ∅];exact rW (dt (dt Z.of.a ∅) Z.k0) Z.m1
 ·rw [nM (es:=bQ fac es2) (by rw [jQ];exact h),nM h];simp
theorem gS.nn2 (Z:gS c1 c2 es1 es2 fac M) (y:An):0<=bD (bQ fac es2) M y:=by
 rw [Z.two];exact dt (dt Z.of.a (vB (fun e he=>⟨by have:=(Z.o2.at he).2;omega,(Z.o2.at he).1.b⟩) (by have:=Z.o2.c1;omega) y)) Z.k0
theorem gS.oth (Z:gS c1 c2 es1 es2 fac M) {e:En}(he:e∈es2):e.2=aK (bD es2 c2 e.1) c2/\0<=bD es2 c2 e.1/\cU fac e.2=aK (bD (bQ fac es2) M e.1) M/\fac.2 * e.2.2 ∣ M:=by
 obtain ⟨w,w1,w2,ew,ea⟩:=rY Z.o2 he;exists by rw [ea];exact ew,∅,?_,?_
 ·rw [Z.two,ea,ew,Z.lim ∅]
 ·rw [ew];exact qw (Int.mul_dvd_mul_left _ (gR Z.o2.c1)) Z.c2M
theorem gS.sum2 (Z:gS c1 c2 es1 es2 fac M):((es2.map (·.1)).map (bD (bQ fac es2) M)).sum < 2 ^ 170:=by
 rw [aY fun x _=>Z.two x,dC];rw [show (fun x=>fac.1 * bD es2 c2 x)=fun x=>bD es2 c2 x * fac.1 by funext x;exact sk _ _,dC,rG Z.o2];have a:c2 * (M / (fac.2 * c2))<=M:=by
  have e:=aAz Z.c2M;have:=ie (show 1<=fac.2 from Z.of.b) (dt (show 0<=c2 by have:=Z.o2.c1;omega) Z.k0)
  grind
 have e:c2 * fac.1 * (M / (fac.2 * c2))=fac.1 * (c2 * (M / (fac.2 * c2))):=by grind
 rw [e];have h1:=ii a Z.of.a;have h2:=(qU Z.of.a Z.of.a2 (show 0<=M by have:=Z.m1;omega) Z.m2).2;exact iu h1 (qa h2 (by decide))
section
variable {α: Type} [DecidableEq α]
def kI (prs:List (α×α)) (A:α->Bool) (y:α):Bool:=prs.any fun e=>decide (e.2=y) && A e.1
structure Fin (prs:List (α×α)) (ks qs:List α) (g h:α->Int) (l:(α×α)->Int) (left:Int) (R:α->Bool):Prop where
 nn:∀ e∈prs,0<=l e
 row:∀ x∈ks,fO prs l x<=g x
 col:∀ y∈qs,fQ prs l y<=h y
 tot:(prs.map l).sum=(ks.map g).sum - left
 up:∀ A:α->Bool,((ks.filter A).map g).sum<=left+((qs.filter (kI prs A)).map h).sum
 eq:((ks.filter R).map g).sum=left+((qs.filter (kI prs R)).map h).sum
 l0:0<=left
theorem aY3 {prs:List (α×α)}{ks qs:List α}{o0 p0:α->Int}{S:eW α}{ah:Ah α}(hp:∀ e∈prs,e.1∈ks/\e.2∈qs) (nk:ks.Nodup) (nq:qs.Nodup) (F:Fl prs ks qs o0 p0 S) (E:zF prs ks S ah):Fin prs ks qs o0 p0 S.l (mN ks S) (inR ah):=by
 exists F.l,fun x hx=>?_,fun y hy=>?_,?_,fun A=>?_,bH6 hp nk nq F E,mI F.o
 ·have:=F.ro x;have:=F.o x hx;omega
 ·have:=F.co y;have:=F.p y hy;omega
 ·have a:(ks.map o0).sum=(ks.map S.o).sum+(ks.map (fO prs S.l)).sum:=by
   rw [<- eB];exact aY fun x _=>(F.ro x).symm
  rw [oS nk,aY (g:=S.l) fun e he=>bh (hp e he).1] at a;unfold mN;omega
 ·have a1:((ks.filter A).map o0).sum=((ks.filter A).map S.o).sum+((ks.filter A).map (fO prs S.l)).sum:=by
   rw [<- eB];exact aY fun x _=>(F.ro x).symm
  have a2:((qs.filter (kI prs A)).map p0).sum=((qs.filter (kI prs A)).map S.p).sum+((qs.filter (kI prs A)).map (fQ prs S.l)).sum:=by
   rw [<- eB];exact aY fun x _=>(F.co x).symm
  rw [oS (nk.sublist gq)] at a1;rw [uZ (nq.sublist gq)] at a2;have b1:((ks.filter A).map S.o).sum<=mN ks S:=uT A F.o;have b2:0<=((qs.filter (kI prs A)).map S.p).sum:=hJ fun y hy=>F.p y (br.mp hy).1
  have b3:(prs.map fun e=>if e.1∈ks.filter A then S.l e else 0).sum<=(prs.map fun e=>if e.2∈qs.filter (kI prs A) then S.l e else 0).sum:=oV fun e he=>by
   by_cases c:e.1∈ks.filter A
   ·rw [bh c,bh (br.mpr ⟨(hp e he).2,fy.mpr ⟨e,he,by rw [ar rfl,(br.mp c).2];rfl⟩⟩)];exact gi _
   ·rw [ap c]
    split
    ·exact F.l e he
    ·exact gi _
  omega
theorem Fin.mul {prs:List (α×α)}{ks qs:List α}{g h:α->Int}{l:(α×α)->Int}{left k:Int}{R:α->Bool}(F:Fin prs ks qs g h l left R) (k0:0<=k):Fin prs ks qs (fun x=>g x * k) (fun y=>h y * k) (fun e=>l e * k) (left * k) R:=by
 have rm:∀ x,fO prs (fun e=>l e * k) x=fO prs l x * k:=fun x=>dC l k _
 have cm:∀ x,fQ prs (fun e=>l e * k) x=fQ prs l x * k:=fun x=>dC l k _
 exists fun e he=>dt (F.nn e he) k0,fun x hx=>?_,fun y hy=>?_,?_,fun A=>?_,?_,dt F.l0 k0
 ·rw [rm];exact ie (F.row x hx) k0
 ·rw [cm];exact ie (F.col y hy) k0
 ·rw [dC,dC,F.tot,Int.sub_mul]
 ·rw [dC,dC, <- aCc];exact ie (F.up A) k0
 ·rw [dC,dC, <- aCc,F.eq]
end
end Mine
namespace L2
open PySem PySem.Spec PyProof.Rows
theorem aN7 {X:Cx}:dL X (.builtin "isinstance") (fun xs H Q=>∃ (d:Addr) (n:String) (b:Bool) (ys:List NE),xs=[.ref d,.ty n]/\H d=some (dN X.prog X.w d ys)/\W.kitOne X.K (.type "dict") (.type n)=some b/\Q (.bl b) H):=by
 intro pins s σ H xs us Q I r h;obtain ⟨d,n,b,ys,rfl,hd,e,q⟩:=h;obtain ⟨u,v,rfl,ru,rv⟩:=tV r
 cases rv
 cases (show u=Value.ref d from ru)
 obtain ⟨⟨_,_,_,_,_,o,es,ep,h1,h2,_⟩,_⟩:=(show bO X.prog X.w H s.heap d (dN X.prog X.w d ys) from I.hok d _ hd)
 exact W.kia_one W.kitx_dict I.kIn ⟨o,h1,h2.1⟩ e (fun z=>nomatch z) fun tk=>⟨.bl b,H,I.tok tk,rfl,q⟩
theorem bX1 {P:Program}{w:World}{K:W.Frag}{mg:Str->Option Value}{base:Heap}{x q:Str}{st:Stmt}{n:Nat}{ps:List Str}{sp:Bool->Sp}(h:∀ b,gX P w K mg base x q st n ps (sp b)):gX P w K mg base x q st n ps (fun vs H Q E=>∃ b,sp b vs H Q E):=fun F =>
 ⟨(by rintro vs H Q E ⟨b,q⟩;exact (h b F).len vs H Q E q),(by rintro A outer s H args us vs Q E hr he hb hv ⟨b,hs⟩;exact (h b F).run A outer s H args us vs Q E hr he hb hv hs)⟩
end L2
namespace Mine
open PySem L2
variable {c1 c2:Int}{es1 es2:List En}{fac rest:Int×Int}{M:Int}{prs:List Pr2}
theorem gS.pa (Z:gS c1 c2 es1 es2 fac M) (L:LyO prs (es1.map (·.1)) (es2.map (·.1))) (hr:kW rest) (hd:rest.2 ∣ M):PaO es1 es2 prs fac rest M :=
 ⟨L,fun e he=>⟨(Z.o1.at he).1.b1.1,(Z.o1.at he).1.b1.2,(Z.o1.at he).1.b⟩,fun e he=>⟨(Z.o2.at he).1.b1.1,(Z.o2.at he).1.b1.2,(Z.o2.at he).1.b⟩,⟨Z.of.b1.1,Z.of.b1.2,Z.of.b⟩,hr,fun e he=>(Z.one he).2.2,fun e he=>by
  obtain ⟨u,hu,rfl⟩:=am.mp he;show 0<=(cU fac u.2).1/\1<=(cU fac u.2).2/\(cU fac u.2).1 < 2 ^ 180/\(cU fac u.2).2 < 2 ^ 180/\(cU fac u.2).2 ∣ M;have:=aG0 Z.of (Z.o2.at hu).1;exact ⟨this.1,this.2.2.1,∅,∅,by rw [(Z.oth hu).2.2.1];exact gR Z.m1⟩,hd,Z.m1,Z.m2⟩
structure cJ4 (prs:List Pr2) (es1 es2:List En) (fac rest:Int×Int) (M:Int) (l:Pr2->Int) (left:Int) (R:An->Bool):Prop where
 f:Fin prs (es1.map (·.1)) (es2.map (·.1)) (bD es1 M) (bD (bQ fac es2) M) l left R
 fr:∀ e∈prs,vU prs es1 es2 fac rest e=aK (l e) M
 lv:zU prs es1 es2 fac rest=prs.filter fun e=>decide (0 < l e)
 gd:wT prs es1 es2 fac rest↔left<=iD rest M
 ct:bK3 prs es1 es2 fac rest=(es1.map (·.1)).filter R
theorem gS.outc (Z:gS c1 c2 es1 es2 fac M) (L:LyO prs (es1.map (·.1)) (es2.map (·.1))) (hr:kW rest) (hd:rest.2 ∣ M):∃ l left R,cJ4 prs es1 es2 fac rest M l left R:=by
 have O:=Z.pa L hr hd;obtain ⟨b1,bM,b3,bd1,bd2,bd3⟩:=O.bot;obtain ⟨F,E⟩:=O.end_;have B:=aY3 O.ly.pr O.ly.nk O.ly.nq F E;have k1:1<=M / jF es1 es2 fac rest:=qy (by have:=Z.m1;omega) ∅ bM;have e1:(fun x=>bD es1 (jF es1 es2 fac rest) x * (M / jF es1 es2 fac rest))=bD es1 M:=funext fun x=>(jL (fun e he=>⟨(O.one e he).2.2,bd1 e he⟩) bM b1 x).symm
 have e2:(fun x=>bD (bQ fac es2) (jF es1 es2 fac rest) x * (M / jF es1 es2 fac rest))=bD (bQ fac es2) M:=funext fun x=>(jL (fun e he=>⟨(O.lm _ he).2.1,bd2 e he⟩) bM b1 x).symm
 have F2:=B.mul (k:=M / jF es1 es2 fac rest) ∅;rw [e1,e2] at F2;exists _,_,_,F2,fun e he=>?_,?_,?_,rfl
 ·unfold vU;exact oA (B.nn e he) b1 Z.m1 bM
 ·unfold zU;refine ou fun e he=>?_
  rw [pj];exact ⟨fun h=>mq h ∅,fun h=>by
   by_cases q:0 < (kG prs es1 es2 fac rest).1.l e
   ·exact q
   ·have:(kG prs es1 es2 fac rest).1.l e=0:=by have:=B.nn e he;omega
    rw [this] at h;simp at h⟩
 ·unfold wT aC2;rw [vO hr.2.2 bd3 bM b1];exact ⟨fun h=>ie h ∅,fun h=>Int.le_of_mul_le_mul_right h ∅⟩
def eO (as:List An) (x:An):Bool:=decide (x∈as)
def oK (ks:List An) (g:An->Int) (as:List An):Int:=((ks.filter (eO as)).map g).sum
def kF (prs:List Pr2) (qs:List An) (h:An->Int) (as:List An):Int:=((qs.filter (kI prs (eO as))).map h).sum
def eY:List An->List (List An)
 |ks=>ks.foldl (fun ss x=>ss++ss.map (· ++[x])) [[]]
def gG (prs:List Pr2) (ks qs:List An) (g h:An->Int) (W:Int) (as:List An):Int:=if kF prs qs h as+W < oK ks g as then oK ks g as - kF prs qs h as else W
def worst (prs:List Pr2) (ks qs:List An) (g h:An->Int):Int:=(eY ks).foldl (gG prs ks qs g h) 0
theorem mG (ks:List An) (x:An):eY (ks++[x])=eY ks++(eY ks).map (· ++[x]):=by
 unfold eY;rw [ot];rfl
theorem qN (q:An->Bool):∀ n (ks:List An),ks.length=n->ks.filter q∈eY ks
 |0,ks,h=>by
  cases ks with
  |nil=>exact ck.mpr rfl
  |cons _ _=>cases h
 |n+1,ks,h=>by
  obtain ⟨r,x,rfl⟩:∃ r x,ks=r++[x]:=⟨ks.dropLast,ks.getLast (by intro z;rw [z] at h;cases h),(qo _).symm⟩
  have ih:=qN q n r (by rw [cq] at h;simpa using h);rw [mG,fk]
  by_cases c:q x=true
  ·rw [fb c,eu];exact dh _ (am.mpr ⟨_,ih,rfl⟩)
  ·rw [dz c,eu,fw];exact fu _ ih
theorem aV9 {ks qs:List An}{g h:An->Int}:∀ (ss:List (List An)) (W B:Int),0<=W->W<=B->(∀ as∈ss,oK ks g as<=B+kF prs qs h as) ->
  W<=ss.foldl (gG prs ks qs g h) W/\ss.foldl (gG prs ks qs g h) W<=B/\∀ as∈ss,oK ks g as<=ss.foldl (gG prs ks qs g h) W+kF prs qs h as
 |[],W,B,h0,h1,_=>⟨gi _,h1,fun _ z=>absurd z cu⟩
 |a :: r,W,B,h0,h1,h2=>by
  have ha:=h2 a bj;have s:W<=gG prs ks qs g h W a/\gG prs ks qs g h W a<=B/\oK ks g a<=gG prs ks qs g h W a+kF prs qs h a:=by
   unfold gG
   split <;> omega
  obtain ⟨i1,i2,i3⟩:=aV9 r (gG prs ks qs g h W a) B ∅ s.2.1 fun x hx=>h2 x (ba _ hx)
  rw [jd];exists ∅,i2,fun x hx=>?_;rcases bo.mp hx with e | e
  ·rw [e];omega
  ·exact i3 x e
theorem jZ {ks:List An}(R:An->Bool):∀ x∈ks,eO (ks.filter R) x=R x:=fun x hx=>by
 unfold eO
 by_cases c:R x=true
 ·rw [c];exact ar (br.mpr ⟨hx,c⟩)
 ·rw [oq.mpr c];exact dk fun z=>c (br.mp z).2
theorem Fin.cut {ks qs:List An}{g h:An->Int}{l:Pr2->Int}{left:Int}{R:An->Bool}(F:Fin prs ks qs g h l left R) (hp:∀ e∈prs,e.1∈ks/\e.2∈qs):oK ks g (ks.filter R)=left+kF prs qs h (ks.filter R):=by
 unfold oK kF;have e1:ks.filter (eO (ks.filter R))=ks.filter R:=ou fun x hx=>jZ R x hx
 have e2:qs.filter (kI prs (eO (ks.filter R)))=qs.filter (kI prs R):=ou fun y _=>by
  unfold kI;rw [jn,fy,fy];exact ⟨(by rintro ⟨e,he,q⟩;exact ⟨e,he,by rwa [jZ R e.1 (hp e he).1] at q⟩),(by rintro ⟨e,he,q⟩;exact ⟨e,he,by rwa [jZ R e.1 (hp e he).1]⟩)⟩
 rw [e1,e2];exact F.eq
theorem Fin.worst {ks qs:List An}{g h:An->Int}{l:Pr2->Int}{left:Int}{R:An->Bool}(F:Fin prs ks qs g h l left R) (hp:∀ e∈prs,e.1∈ks/\e.2∈qs):worst prs ks qs g h=left:=by
 obtain ⟨i1,i2,i3⟩:=aV9 (prs:=prs) (ks:=ks) (qs:=qs) (g:=g) (h:=h) (eY ks) 0 left ∅ F.l0 fun as _=>F.up (eO as)
 have:=i3 _ (qN R _ ks rfl);rw [F.cut hp] at this;unfold Mine.worst;omega
section
variable {α: Type} [DecidableEq α]
theorem aA8 {β γ: Type}(F:β->γ->Int) (ys:List γ):∀ xs:List β,(xs.map fun x=>(ys.map fun y=>F x y).sum).sum=(ys.map fun y=>(xs.map fun x=>F x y).sum).sum
 |[]=>(eK fun _ _=>rfl).symm
 |x :: r=>by
  rw [au,di,aA8 F ys r, <- eB];exact aY fun y _=>by rw [au,di]
theorem bB0 {f:α->Int}{ks qs:List α}(nk:ks.Nodup) (nq:qs.Nodup):(ks.map fun x=>if x∈qs then f x else 0).sum=(qs.map fun y=>if y∈ks then f y else 0).sum:=by
 have a:∀ x∈ks,(if x∈qs then f x else 0)=(qs.map fun y=>if x=y then f x else 0).sum:=fun x _=>(tF nq).symm
 have b:∀ y∈qs,(if y∈ks then f y else 0)=(ks.map fun x=>if x=y then f x else 0).sum:=fun y _=>by
  rw [<- tF (p:=y) (c:=f y) nk];exact aY fun x _=>by
   by_cases c:x=y
   ·subst c;rfl
   ·rw [ap c,ap fun z=>c z.symm]
 rw [aY a,aY b,aA8]
end
def alike (ks qs:List An):List Pr2:=(ks.filter (eO qs)).map fun x=>(x,x)
def jC (ks:List An) (g h:An->Int):Int:=(ks.map fun x=>if h x < g x then g x - h x else 0).sum
theorem Fin.alike {ks qs:List An}{g h:An->Int}{l:Pr2->Int}{left:Int}{R:An->Bool}(F:Fin (alike ks qs) ks qs g h l left R) (nk:ks.Nodup) (nq:qs.Nodup) (h0:∀ x,x∉qs->h x=0) (hn:∀ x,0<=h x):left=jC ks g h:=by
 have nb:∀ A:An->Bool,((qs.filter (kI (Mine.alike ks qs) A)).map h).sum=((ks.filter A).map h).sum:=fun A=>by
  have e1:∀ y∈qs,kI (Mine.alike ks qs) A y=(decide (y∈ks) && A y):=fun y hy=>by
   unfold kI Mine.alike;rw [List.any_map]
   by_cases c:y∈ks/\A y=true
   ·rw [ar c.1,c.2];exact fy.mpr ⟨y,br.mpr ⟨c.1,ar hy⟩,by simp [c.2]⟩
   ·have:(decide (y∈ks) && A y)=false:=by
     rw [oq];intro z;rw [ig] at z;exact c ⟨cf z.1,z.2⟩
    rw [this,oq];intro z;obtain ⟨x,hx,q⟩:=fy.mp z;simp only [Function.comp,Bool.and_eq_true,decide_eq_true_eq] at q;exact c ⟨q.1 ▸ (br.mp hx).1,q.1 ▸ q.2⟩
  rw [ou e1,gP,gP];refine Eq.trans (aY fun y hy=>?_) (Eq.trans (bB0 (f:=fun y=>if A y=true then h y else 0) nk nq).symm (aY fun x hx=>?_))
  ·by_cases c:y∈ks
   ·simp [c]
   ·simp [c]
  ·by_cases c:x∈qs
   ·simp [c]
   ·simp [c,h0 x c]
 have a1:=F.eq;rw [nb] at a1;have a2:=F.up fun x=>decide (h x < g x)
 rw [nb] at a2;unfold jC;have b1:((ks.filter fun x=>decide (h x < g x)).map g).sum - ((ks.filter fun x=>decide (h x < g x)).map h).sum=(ks.map fun x=>if h x < g x then g x - h x else 0).sum:=by
  rw [gP,gP];have:(ks.map fun x=>if decide (h x < g x)=true then g x else 0).sum=(ks.map fun x=>(if h x < g x then g x - h x else 0)+if decide (h x < g x)=true then h x else 0).sum:=aY fun x _=>by
   by_cases c:h x < g x
   ·simp [c]
   ·simp [c]
  rw [this,eB];omega
 have b2:((ks.filter R).map g).sum - ((ks.filter R).map h).sum<=(ks.map fun x=>if h x < g x then g x - h x else 0).sum:=by
  rw [gP,gP];have:(ks.map fun x=>if R x=true then g x else 0).sum<=(ks.map fun x=>(if h x < g x then g x - h x else 0)+if R x=true then h x else 0).sum:=oV fun x _=>by
   split <;> split <;> omega
  rw [eB] at this;omega
 omega
end Mine
namespace L2
open PySem PySem.Spec PyProof.Rows
theorem cD3 {X:Cx}(K:W.Frag) (hK:autoParam (X.K=K) Rq0._auto_1):jX X (binaryOp .Add) (bO0 K):=by subst hK;exact aM7
end L2
namespace Mine
open PySem L2
structure nR (b:Bool) (H:Hp) (t1 t2 p3 p4:Addr) (c1 c2:Int) (es1 es2:List En) (fac:Int×Int) (ws3:List V) (prs:List Pr2):Prop where
 ask:zC b H t1 t2 p4 c1 c2 es1 es2 fac
 h3:H p3=some (.tup ws3)
 tw3:bC (jJ b H) ws3 prs
 ly:LyO prs (es1.map (·.1)) (es2.map (·.1))
section
variable {b:Bool}{H H':Hp}{t1 t2 p3 p4:Addr}{c1 c2:Int}{es1 es2:List En}{fac:Int×Int}{ws3:List V}{prs:List Pr2}{M:Int}
theorem nR.ts (s:TS H H') (A:nR b H t1 t2 p3 p4 c1 c2 es1 es2 fac ws3 prs):nR b H' t1 t2 p3 p4 c1 c2 es1 es2 fac ws3 prs:=⟨A.ask.ts s,s _ _ A.h3,A.tw3.mono fun _ _ z=>jJ.ts s z,A.ly⟩
structure MOk (c1 c2:Int) (fac:Int×Int) (M:Int):Prop where
 d:c1 * (fac.2 * c2) ∣ M
 m1:1<=M
 m2:M < 2 ^ 130
theorem nR.scl (A:nR b H t1 t2 p3 p4 c1 c2 es1 es2 fac ws3 prs) (m:MOk c1 c2 fac M):gS c1 c2 es1 es2 fac M:=⟨A.ask.o1,A.ask.o2,A.ask.of,m.d,m.m1,m.m2⟩
theorem zC.base (A:zC b H t1 t2 p4 c1 c2 es1 es2 fac):MOk c1 c2 fac (c1 * (fac.2 * c2))/\c1 * (fac.2 * c2) < 2 ^ 118:=by
 obtain ⟨h1,h2⟩:=aJ1 A.o1.c1 A.o1.c2 A.o2.c1 A.o2.c2 A.of;exact ⟨⟨Int.dvd_refl _,h1,∅⟩,h2⟩
end
def dX (H:Hp) (q:Addr) (m M:Int):Prop:=bP H q (aK m M).1 (aK m M).2
def hM (es1:List En) (M:Int) (as:List An):Int:=oK (es1.map (·.1)) (bD es1 M) as
def tM (prs:List Pr2) (es2:List En) (fac:Int×Int) (M:Int) (as:List An):Int:=kF prs (es2.map (·.1)) (bD (bQ fac es2) M) as
def wM (prs:List Pr2) (es1 es2:List En) (fac:Int×Int) (M:Int):Int:=worst prs (es1.map (·.1)) (es2.map (·.1)) (bD es1 M) (bD (bQ fac es2) M)
def spPrs:Sp:=fun vs H Q _=>∃ d l b t1 t2 c1 c2 es1 es2,vs=[.ref d,.ref t1,.ref t2]/\eZ H d l/\fY b H t1 es1/\fY b H t2 es2/\eE c1 es1/\eE c2 es2 /\
 ∀ H' p ws prs,H' p=some (.tup ws)->bC (jJ b H') ws prs->LyO prs (es1.map (·.1)) (es2.map (·.1))->eZ H' d l->dM d l H H'->Q (.ref p) H'
def spOver:Sp:=fun vs H Q _=>∃ b t1 t2 p3 p4 ta c1 c2 es1 es2 fac ws3 prs us as M,vs=[.ref t1,.ref t2,.ref p3,.ref p4,.ref ta]/\nR b H t1 t2 p3 p4 c1 c2 es1 es2 fac ws3 prs/\MOk c1 c2 fac M/\H ta=some (.tup us)/\bC (cV b H) us as /\
 ∀ H' r q1 q2,aN H H'->H' r=some (.tup [.ref q1,.ref q2])->dX H' q1 (hM es1 M as) M->dX H' q2 (tM prs es2 fac M as) M->Q (.ref r) H'
def spBrk:Sp:=fun vs H Q _=>∃ b t1 t2 p3 p4 p5 ta c1 c2 es1 es2 fac ws3 prs us as M rM,vs=[.ref t1,.ref t2,.ref p3,.ref p4,.ref p5,.ref ta]/\nR b H t1 t2 p3 p4 c1 c2 es1 es2 fac ws3 prs/\MOk c1 c2 fac M/\H ta=some (.tup us)/\bC (cV b H) us as/\dX H p5 rM M/\0<=rM/\rM < 2 ^ 150 /\
 as=(es1.map (·.1)).filter (eO as)/\rM+tM prs es2 fac M as < hM es1 M as/\∀ H',aN H H'->Q (.bl true) H'
def spWst:Sp:=fun vs H Q _=>∃ b t1 t2 p3 p4 c1 c2 es1 es2 fac ws3 prs M,vs=[.ref t1,.ref t2,.ref p3,.ref p4]/\nR b H t1 t2 p3 p4 c1 c2 es1 es2 fac ws3 prs/\MOk c1 c2 fac M/\(∀ i,0<=((eY (es1.map (·.1))).take i).foldl (gG prs (es1.map (·.1)) (es2.map (·.1)) (bD es1 M) (bD (bQ fac es2) M)) 0/\((eY (es1.map (·.1))).take i).foldl (gG prs (es1.map (·.1)) (es2.map (·.1)) (bD es1 M) (bD (bQ fac es2) M)) 0<=M) /\
 ∀ H' r,aN H H'->dX H' r (wM prs es1 es2 fac M) M->Q (.ref r) H'
def spRst:Sp:=fun vs H Q _=>∃ d l q W M0,vs=[.ref d,.ref q]/\eZ H d l/\dX H q W M0/\0<=W/\W<=M0/\1<=M0/\M0 < 2 ^ 118 /\
 ∀ H' r rM M,dX H' r rM M->M0 ∣ M->1<=M->M < 2 ^ 130->0<=rM->rM < 2 ^ 150->eZ H' d l->dM d l H H'->Q (.ref r) H'
theorem oW {α: Type}(q:α->Bool) (f:α->Int) {l:List α}{i:Nat}{x:α}(h:l[i]?=some x):(((l.take (i+1)).filter q).map f).sum=(((l.take i).filter q).map f).sum+if q x=true then f x else 0:=by
 rw [aO h,fk,bp,rg]
 by_cases c:q x=true
 ·rw [fb c,bh c];simp
 ·rw [dz c,ap c];simp
theorem kE {α β: Type}{f:α->β}{l:List α}{i:Nat}{x:α}(h:l[i]?=some x):(l.map f)[i]?=some (f x):=by rw [cp,h];rfl
theorem nN {α: Type}(q:α->Bool) {f:α->Int}{l:List α}(h:∀ x,0<=f x) (i:Nat):0<=(((l.take i).filter q).map f).sum/\(((l.take i).filter q).map f).sum<=(l.map f).sum:=by
 exists hJ fun x _=>h x,pi (uT q fun x _=>h x) ?_;have e:(l.map f).sum=((l.take i).map f).sum+((l.drop i).map f).sum:=by rw [<- rg, <- bp,nv]
 have:=hJ (f:=f) (l:=l.drop i) fun x _=>h x
 omega
section
variable {c1 c2:Int}{es1 es2:List En}{fac:Int×Int}{M:Int}
theorem gS.tb (Z:gS c1 c2 es1 es2 fac M) (prs:List Pr2) (as:List An):0<=tM prs es2 fac M as/\tM prs es2 fac M as < 2 ^ 170:=by
 have:=nN (kI prs (eO as)) (l:=es2.map (·.1)) Z.nn2 (es2.map (·.1)).length;rw [be] at this;exact ⟨this.1,iu this.2 Z.sum2⟩
theorem gS.hb (Z:gS c1 c2 es1 es2 fac M) (as:List An):0<=hM es1 M as/\hM es1 M as<=M:=by
 have:=nN (eO as) (l:=es1.map (·.1)) Z.nn1 (es1.map (·.1)).length;rw [be,Z.sum1] at this;exact this
theorem gS.nnc (Z:gS c1 c2 es1 es2 fac M) (x:An):0<=bD es2 c2 x:=vB (fun e he=>⟨by have:=(Z.o2.at he).2;omega,(Z.o2.at he).1.b⟩) (by have:=Z.o2.c1;omega) x
theorem gS.et (Z:gS c1 c2 es1 es2 fac M) (prs:List Pr2) (as:List An):cU fac (aK (((es2.map (·.1)).filter (kI prs (eO as))).map (bD es2 c2)).sum c2)=aK (tM prs es2 fac M as) M:=by
 rw [Z.lim (hJ fun x _=>Z.nnc x)];unfold tM kF;rw [aY fun x _=>Z.two x,dC];rw [show (fun x=>fac.1 * bD es2 c2 x)=fun x=>bD es2 c2 x * fac.1 by funext x;exact sk _ _,dC,sk fac.1]
end
theorem aK5 {y:Int}(h:1<=y):aK 1 y=(1,y):=by
 have g:gI 1 y=1:=by
  have g0:=tD (a:=1) h;have:=aBd (by decide) (aK9 (a:=1) (b:=y) (by decide));omega
 unfold aK gD eQ;rw [g,Int.ediv_one,Int.ediv_one]
theorem bZ {m M:Int}(m0:0<=m) (m1:m < 2 ^ 180) (M1:1<=M) (M2:M < 2 ^ 180):kW (aK m M):=pH m0 m1 M1 M2
theorem aI5 {H:Hp}{r:Addr}{m M:Int}(h:H r=none):∃ G,aJ H r (.tup [.int (aK m M).1,.int (aK m M).2])=G/\aN H G/\dX G r m M:=⟨_,rfl,aA h _,aB⟩
def yF (b:Bool) (H:Hp) (v:V) (as:List An):Prop:=∃ t us,v= .ref t/\H t=some (.tup us)/\bC (cV b H) us as
theorem yF.ts {b:Bool}{H H':Hp}(s:TS H H') {v:V}{as:List An}(h:yF b H v as):yF b H' v as:=by obtain ⟨t,us,e,h1,h2⟩:=h;exact ⟨t,us,e,s _ _ h1,h2.mono fun _ _ z=>cV.ts s z⟩
theorem bC6:∀ ks:List An,(eY ks).length=2 ^ ks.length:=fun ks=>by
 generalize e:ks.length=n
 induction n generalizing ks with
 |zero=>cases ks with
  |nil=>rfl
  |cons _ _=>cases e
 |succ n ih =>
  obtain ⟨r,x,rfl⟩:∃ r x,ks=r++[x]:=⟨ks.dropLast,ks.getLast (by intro z;rw [z] at e;cases e),(qo _).symm⟩
  rw [cq] at e;rw [mG,cq,ae,ih r (by simpa using e),Nat.pow_succ];omega
theorem bJ5 {ks as:List An}(h:as∈eY ks):as.length<=ks.length:=by
 generalize e:ks.length=n
 induction n generalizing ks as with
 |zero=>cases ks with
  |nil=>rw [ck.mp h];exact ao _
  |cons _ _=>cases e
 |succ n ih =>
  obtain ⟨r,x,rfl⟩:∃ r x,ks=r++[x]:=⟨ks.dropLast,ks.getLast (by intro z;rw [z] at e;cases e),(qo _).symm⟩
  rw [cq] at e;have e:r.length=n:=by simpa using e
  rw [mG] at h;rcases cj.mp h with q | q
  ·have:=ih q e;omega
  ·obtain ⟨c,hc,rfl⟩:=am.mp q;have:=ih hc e;rw [cq];show c.length+1<=n+1;omega
theorem bP1 {n:Nat}(h:n<=8192):n < sizeLine:=db h (by decide)
structure PrI (ks qs:List An) (prs:List Pr2) (i j:Nat):Prop where
 nd:prs.Nodup
 me:∀ e∈prs,e.1∈ks/\e.2∈qs/\(e.1∈ks.take i\/ks[i]?=some e.1/\e.2∈qs.take j)
theorem wY {α: Type}{l:List α}{i:Nat}{x:α}(h:x∈l.take i):x∈l.take (i+1):=by
 rw [List.mem_take_iff_getElem] at h ⊢;obtain ⟨k,hk,e⟩:=h;exact ⟨k,∅,e⟩
theorem aM0 {α: Type}{l:List α}{i:Nat}{x:α}(h:l[i]?=some x):x∈l.take (i+1):=by rw [aO h];exact dh _ (ck.mpr rfl)
theorem zM {α: Type}{l:List α}(nd:l.Nodup) {i:Nat}{x:α}(h:l[i]?=some x):x∉l.take i:=fun z=>by
 have li:=(bw.mp h).1;have s:l=l.take i++l.drop i:=(nv i l).symm;rw [s] at nd;refine (qh.mp nd).2.2 _ z _ ?_ rfl;rw [oz li,(bw.mp h).2];exact bj
section
variable {ks qs:List An}{prs:List Pr2}{i j:Nat}{x y:An}
theorem PrI.skip (I:PrI ks qs prs i j):PrI ks qs prs i (j+1):=⟨I.nd,fun e he=>let ⟨a,b,c⟩:=I.me e he;⟨a,b,c.imp_right (by rintro ⟨p,q⟩;exact ⟨p,wY q⟩)⟩⟩
theorem PrI.next (I:PrI ks qs prs i j):PrI ks qs prs (i+1) 0:=⟨I.nd,fun e he=>let ⟨a,b,c⟩:=I.me e he;⟨a,b,.inl (c.elim wY (by rintro ⟨p,_⟩;exact aM0 p))⟩⟩
theorem PrI.add (I:PrI ks qs prs i j) (nk:ks.Nodup) (nq:qs.Nodup) (hx:ks[i]?=some x) (hy:qs[j]?=some y):PrI ks qs (prs++[(x,y)]) i (j+1):=by
 exists gK I.nd fun z=>?_,fun e he=>?_
 ·obtain ⟨_,_,c | c⟩:=I.me _ z
  ·exact zM nk hx c
  ·exact zM nq hy c.2
 ·rcases cj.mp he with q | q
  ·exact I.skip.me e q
  ·rw [ck.mp q];exact ⟨bq hx,bq hy,.inr ⟨hx,aM0 hy⟩⟩
theorem PrI.len (I:PrI ks qs prs i j):prs.length<=ks.length * qs.length:=by
 have:=iM (m:=ks.flatMap fun x=>qs.map fun y=>((x,y):Pr2)) I.nd fun e he=>List.mem_flatMap.mpr ⟨e.1,(I.me e he).1,am.mpr ⟨e.2,(I.me e he).2.1,rfl⟩⟩
 rw [List.length_flatMap] at this;have e:(ks.map fun _=>qs.length).sum=ks.length * qs.length:=by
  clear this;clear I
  induction ks with
  |nil=>simp
  |cons a r ih=>rw [au,di,ih,dq,Nat.add_mul];omega
 simpa [e] using this
end
structure bC9 (b:Bool) (H:Hp) (t:Addr) (T:An->Int) (M:Int) (l:List (An×V)):Prop where
 d:H t=some (dB b l)
 v:∀ e∈l,VA b e.1
 no:∀ x,bH l x=none->T x=0
 yes:∀ x v,bH l x=some v->∃ r,v= .ref r/\dX H r (T x) M
def eT (b:Bool) (H:Hp) (t:Addr) (T:An->Int) (M:Int) (n:Nat):Prop:=∃ l,bC9 b H t T M l/\l.length<=n
section
variable {b:Bool}{H H':Hp}{t:Addr}{T:An->Int}{M:Int}{n:Nat}
theorem eT.keep (h:eT b H t T M n) (s:TS H H') (k:∀ o,H t=some o->H' t=some o):eT b H' t T M n:=by obtain ⟨l,L,z⟩:=h;exact ⟨l,⟨k _ L.d,L.v,L.no,fun x v e=>let ⟨r,a,c⟩:=L.yes x v e;⟨r,a,s _ _ c⟩⟩,z⟩
theorem eT.same (h:eT b H t T M n) (s:aN H H'):eT b H' t T M n:=h.keep (TS.of s) fun _ e=>s _ _ e
theorem eT.start (hg:H t=none):eT b (aJ H t (dB b [])) t (fun _=>0) M 0:=⟨[],⟨aB,fun _ z=>absurd z cu,fun _ _=>rfl,fun _ _ z=>by cases z⟩,ao _⟩
theorem bC9.get {l:List (An×V)}(L:bC9 b H t T M l) (M1:1<=M) {z:Addr}(hz:bP H z 0 1) (x:An):∃ r,(bH l x).getD (.ref z)= .ref r/\dX H r (T x) M:=by
 cases e:bH l x with
 |none =>
  exists z,rfl,?_;unfold dX;rw [L.no x e,dO M1];exact hz
 |some v =>
  obtain ⟨r,rfl,h⟩:=L.yes x v e;exact ⟨r,rfl,h⟩
theorem aK0 {κ: Type} [DecidableEq κ] (l:List (κ×V)) (k:κ) (v:V):(bF l k v).length<=l.length+1:=by
 unfold bF
 split
 ·rw [ae];omega
 ·rw [cq];exact ao _
theorem bC9.put {l:List (An×V)}(L:bC9 b H t T M l) (hl:l.length<=n) {x:An}{r:Addr}{m:Int}(vx:VA b x) (hr:dX H r (T x+m) M):eT b (aJ H t (dB b (bF l x (.ref r)))) t (fun y=>if y=x then T y+m else T y) M (n+1):=by
 have ts:TS H (aJ H t (dB b (bF l x (.ref r)))):=fun c xs q=>by rw [aE (bN q L.d lH)];exact q
 exists bF l x (.ref r),⟨aB,fun e he=>?_,fun y hy=>?_,fun y v hy=>?_⟩,cy (aK0 l x _) ∅
 ·rcases nS he with q | ⟨z,hz,q⟩
  ·rw [q];exact vx
  ·rw [<- q];exact L.v z hz
 ·rw [sU] at hy
  by_cases c:y=x
  ·rw [bh c] at hy;cases hy
  ·rw [ap c] at hy;rw [ap c];exact L.no y hy
 ·rw [sU] at hy
  by_cases c:y=x
  ·rw [bh c] at hy
   cases hy
   rw [bh c];exact ⟨r,rfl,by subst c;exact ts _ _ hr⟩
  ·rw [ap c] at hy;obtain ⟨q,e,h⟩:=L.yes y v hy;rw [ap c];exact ⟨q,e,ts _ _ h⟩
theorem eT.eq {T':An->Int}(h:eT b H t T M n) (e:T=T'):eT b H t T' M n:=e ▸ h
end
def jS (sd:Bool) (e:Pr2):An:=if sd then e.2 else e.1
def fX (ps:List Pr2) (l:Pr2->Int) (sd:Bool) (x:An):Int:=((ps.filter fun e=>decide (jS sd e=x)).map l).sum
theorem qE {ps:List Pr2}{l:Pr2->Int}{sd:Bool}{i:Nat}{e:Pr2}(h:ps[i]?=some e):fX (ps.take (i+1)) l sd=fun y=>if y=jS sd e then fX (ps.take i) l sd y+l e else fX (ps.take i) l sd y:=by
 funext y
 unfold fX;rw [oW _ l h]
 by_cases c:jS sd e=y
 ·rw [bh (ar c),bh c.symm]
 ·rw [ap (by simpa using c),ap fun z=>c z.symm,sv]
theorem aW8 (ps:List Pr2) (l:Pr2->Int) (x:An):fX ps l false x=fO ps l x:=rfl
theorem aY4 (ps:List Pr2) (l:Pr2->Int) (x:An):fX ps l true x=fQ ps l x:=rfl
theorem wL {prs:List Pr2}{l:Pr2->Int}(nn:∀ e∈prs,0<=l e) (sd:Bool) (x:An):fX (prs.filter fun e=>decide (0 < l e)) l sd x=fX prs l sd x:=by
 unfold fX;rw [List.filter_filter,gP,gP];refine aY fun e he=>?_
 have:=nn e he
 by_cases c:0 < l e
 ·simp [c]
 ·have:l e=0:=∅
  rw [this];simp
theorem aV8 {prs:List Pr2}{l:Pr2->Int}(nn:∀ e∈prs,0<=l e):((prs.filter fun e=>decide (0 < l e)).map l).sum=(prs.map l).sum:=by
 rw [gP];refine aY fun e he=>?_
 have:=nn e he
 by_cases c:0 < l e
 ·simp [c]
 ·simp [c];omega
structure PgM (P:Program) (w:World) (b:Bool) (H:Hp) (d:Addr) (ps:List Pr2) (l:Pr2->Int) (M:Int):Prop where
 h:PgH P w b H d ps fun e=>aK (l e) M
 z:ps.length<=200
 p:∀ e∈ps,1<=l e
 s:(ps.map l).sum<=M
 m1:1<=M
 m2:M < 2 ^ 130
theorem PgM.same {P:Program}{w:World}{b:Bool}{H H':Hp}{d:Addr}{ps:List Pr2}{l:Pr2->Int}{M:Int}(h:PgM P w b H d ps l M) (s:aN H H'):PgM P w b H' d ps l M:=⟨h.h.same s,h.z,h.p,h.s,h.m1,h.m2⟩
theorem nO {ps:List Pr2}{l:Pr2->Int}(h:∀ e∈ps,0<=l e) (q:Pr2->Bool) (i:Nat):0<=(((ps.take i).filter q).map l).sum/\(((ps.take i).filter q).map l).sum<=(ps.map l).sum:=by
 exists hJ fun x hx=>h x (pc (br.mp hx).1),pi (uT q fun x hx=>h x (pc hx)) ?_;have e:(ps.map l).sum=((ps.take i).map l).sum+((ps.drop i).map l).sum:=by rw [<- rg, <- bp,nv]
 have:=hJ (f:=l) (l:=ps.drop i) fun x hx=>h x (List.mem_of_mem_drop hx)
 omega
def aZ9 (P:Program) (w:World):Sp:=fun vs H Q _=>∃ b d sd ps l M,vs=[.ref d,.int (if sd then 1 else 0)]/\PgM P w b H d ps l M/\∀ H' t,aN H H'->eT b H' t (fX ps l sd) M 200->Q (.ref t) H'
structure cA1 (es1 es2:List En) (prs:List Pr2) (fac:Int×Int) (ps:List Pr2) (l:Pr2->Int) (rM M:Int):Prop where
 m:∀ e∈ps,e∈prs
 r:∀ e∈es1,fX ps l false e.1<=bD es1 M e.1
 c:∀ e∈es2,fX ps l true e.1<=bD (bQ fac es2) M e.1
 t:M<=(ps.map l).sum+rM
 r0:0<=rM
 r1:rM < 2 ^ 150
def aM4 (P:Program) (w:World):Sp:=fun vs H Q _=>∃ b t1 t2 p3 p4 p5 d c1 c2 es1 es2 fac ws3 prs ps l M rM,vs=[.ref t1,.ref t2,.ref p3,.ref p4,.ref p5,.ref d]/\nR b H t1 t2 p3 p4 c1 c2 es1 es2 fac ws3 prs/\MOk c1 c2 fac M/\PgM P w b H d ps l M/\dX H p5 rM M/\cA1 es1 es2 prs fac ps l rM M/\∀ H',aN H H'->Q (.bl true) H'
def spIsB:Sp:=fun vs H Q _=>∃ b t1 t2 p3 p4 p5 ta c1 c2 es1 es2 fac ws3 prs us as M rM,vs=[.ref t1,.ref t2,.ref p3,.ref p4,.ref p5,.ref ta]/\nR b H t1 t2 p3 p4 c1 c2 es1 es2 fac ws3 prs/\MOk c1 c2 fac M/\H ta=some (.tup us)/\bC (cV b H) us as/\dX H p5 rM M/\0<=rM/\rM < 2 ^ 150 /\
 as=(es1.map (·.1)).filter (eO as)/\rM+tM prs es2 fac M as < hM es1 M as/\∀ H',aN H H'->Q (.bl true) H'
def uR (P:Program) (w:World) (b:Bool) (H:Hp) (r:Addr) (es1 es2:List En) (prs:List Pr2) (fac:Int×Int) (rM M:Int) (bk:Bool):Prop :=
 (bk=false/\∃ d ps l,H r=some (.tup [.str "paired",.ref d])/\PgM P w b H d ps l M/\cA1 es1 es2 prs fac ps l rM M) \/
 (bk=true/\∃ t us as,H r=some (.tup [.str "broken",.ref t])/\H t=some (.tup us)/\bC (cV b H) us as/\as=(es1.map (·.1)).filter (eO as)/\rM+tM prs es2 fac M as < hM es1 M as)
theorem uR.same {P:Program}{w:World}{b:Bool}{H H':Hp}{r:Addr}{es1 es2:List En}{prs:List Pr2}{fac:Int×Int}{rM M:Int}{bk:Bool}(h:uR P w b H r es1 es2 prs fac rM M bk) (s:aN H H'):uR P w b H' r es1 es2 prs fac rM M bk:=by
 rcases h with ⟨e,d,ps,l,h1,h2,h3⟩ | ⟨e,t,us,as,h1,h2,h3,h4,h5⟩
 ·exact .inl ⟨e,d,ps,l,s _ _ h1,h2.same s,h3⟩
 ·exact .inr ⟨e,t,us,as,s _ _ h1,s _ _ h2,h3.mono fun _ _ z=>cV.ts (TS.of s) z,h4,h5⟩
def xU (P:Program) (w:World):Sp:=fun vs H Q _=>∃ b t1 t2 p3 p4 p5 r c1 c2 es1 es2 fac ws3 prs M rM bk,vs=[.ref t1,.ref t2,.ref p3,.ref p4,.ref p5,.ref r]/\nR b H t1 t2 p3 p4 c1 c2 es1 es2 fac ws3 prs/\MOk c1 c2 fac M/\dX H p5 rM M/\0<=rM/\rM < 2 ^ 150/\uR P w b H r es1 es2 prs fac rM M bk/\∀ H',aN H H'->Q (.bl true) H'
theorem rP {β: Type}{f:β->Int}:∀ {l:List β}{x:β},x∈l->(∀ y∈l,0<=f y)->f x<=(l.map f).sum
 |a :: r,x,h,n=>by
  rw [au,di];have r0:=hJ (f:=f) (l:=r) fun y hy=>n y (ba _ hy)
  rcases bo.mp h with e | e
  ·rw [e];omega
  ·have:=rP e fun y hy=>n y (ba _ hy)
   have:=n a bj;omega
 |[],_,h,_=>absurd h cu
theorem PgM.le {P:Program}{w:World}{b:Bool}{H:Hp}{d:Addr}{ps:List Pr2}{l:Pr2->Int}{M:Int}(h:PgM P w b H d ps l M) {e:Pr2}(he:e∈ps):0<=l e/\l e<=M:=by
 have:=rP (f:=l) he fun y hy=>by have:=h.p y hy;omega
 have:=h.p e he;have:=h.s;omega
theorem aB7 {M:Int}(h:1<=M):aK M M=(1,1):=by
 rw [<- aK5 (y:=1) (by decide)];exact fS ∅ h (by decide) (by decide) ∅
def Cmp (g t M:Int):Prop:=jY (aK g M).1/\jY (aK g M).2/\jY (aK t M).1/\jY (aK t M).2/\decide ((aK g M).1 * (aK t M).2 < (aK t M).1 * (aK g M).2)=false
theorem aL4 {g t M:Int}(t0:0<=t) (h:t<=g) (hg:g < 2 ^ 170) (M1:1<=M) (M2:M < 2 ^ 130):Cmp g t M:=by
 have F1:=bZ (m:=g) (M:=M) ∅ ∅ M1 ∅;have F2:=bZ (m:=t) (M:=M) t0 ∅ M1 ∅;have el:=gQ (m:=g) (n:=t) ∅ t0 M1;unfold ltF at el;exact ⟨F1.1,F1.2.1,F2.1,F2.2.1,by rw [el];exact dk ∅⟩
theorem gS.cmp1 {c1 c2:Int}{es1 es2:List En}{fac:Int×Int}{M t:Int}{e:En}(Z:gS c1 c2 es1 es2 fac M) (me:e∈es1) (t0:0<=t) (h:t<=bD es1 M e.1):Cmp (bD es1 M e.1) t M:=aL4 t0 h (by
 have:=rP (f:=bD es1 M) (am.mpr ⟨e,me,rfl⟩:e.1∈es1.map (·.1)) fun y _=>Z.nn1 y
 rw [Z.sum1] at this;have:=Z.m2;omega) Z.m1 Z.m2
theorem gS.cmp2 {c1 c2:Int}{es1 es2:List En}{fac:Int×Int}{M t:Int}{e:En}(Z:gS c1 c2 es1 es2 fac M) (me:e∈es2) (t0:0<=t) (h:t<=bD (bQ fac es2) M e.1):Cmp (bD (bQ fac es2) M e.1) t M:=aL4 t0 h (iu (rP (f:=bD (bQ fac es2) M) (am.mpr ⟨e,me,rfl⟩:e.1∈es2.map (·.1)) fun y _=>Z.nn2 y) Z.sum2) Z.m1 Z.m2
def spRiseT:Sp:=fun vs H Q _=>∃ (l:Addr) (zs:List V) (b:Bool) (as:List (List Int)),vs=[.ref l]/\H l=some (.tup zs)/\bC (cV b H) zs as/\as.length<=100/\∀ H',aN H H'->Q (.bl (zE as)) H'
theorem aZ4 {P:Program}{w:World}{b:Bool}{H H0:Hp}{t1 t2 p3 p4 r:Addr}{c1 c2:Int}{es1 es2:List En}{fac:Int×Int}{ws3:List V}{prs:List Pr2}{M rM:Int}(A:nR b H0 t1 t2 p3 p4 c1 c2 es1 es2 fac ws3 prs) (m:MOk c1 c2 fac M) (r0:0<=rM) (r1:rM < 2 ^ 150)
  (h:cC1 P w b H r prs es1 es2 fac (aK rM M)):uR P w b H r es1 es2 prs fac rM M (decide (rM < wM prs es1 es2 fac M))/\0<=wM prs es1 es2 fac M/\wM prs es1 es2 fac M<=M:=by
 have Z:=A.scl m;obtain ⟨l,left,R,O⟩:=Z.outc (prs:=prs) (rest:=aK rM M) A.ly (bZ r0 ∅ m.m1 (by have:=m.m2;omega)) (gR m.m1);have ew:wM prs es1 es2 fac M=left:=O.f.worst A.ly.pr;have gd:=O.gd;rw [rW r0 m.m1] at gd;have tt:=O.f.tot;rw [Z.sum1] at tt;have sl:=aV8 O.f.nn;have sn:=hJ O.f.nn;rw [ew];exists ?_,O.f.l0,∅;rcases h with ⟨g,d,h1,h2⟩ | ⟨g,t,us,h1,h2,h3⟩
 ·have gl:=gd.mp g;rw [dk ∅];refine .inl ⟨rfl,d,prs.filter (fun e=>decide (0 < l e)),l,h1,⟨?_,cy (de _ _) A.ly.zp,fun e he=>by have:=cf (br.mp he).2;omega,by rw [sl,tt];have:=O.f.l0;omega,m.m1,m.m2⟩,⟨fun e he=>(br.mp he).1,fun e he=>?_,fun e he=>?_,by rw [sl,tt];omega,r0,r1⟩⟩
  ·obtain ⟨zs,a,e,k⟩:=h2;rw [O.lv] at e;exists zs,a,e,fun z hz=>?_;have mz:z.1∈prs.filter fun e=>decide (0 < l e):=by rw [<- e];exact am.mpr ⟨z,hz,rfl⟩
   have:=k z hz;rw [O.fr z.1 (br.mp mz).1] at this;exact this
  ·rw [wL O.f.nn,aW8];exact O.f.row _ (am.mpr ⟨e,he,rfl⟩)
  ·rw [wL O.f.nn,aY4];exact O.f.col _ (am.mpr ⟨e,he,rfl⟩)
 ·have gl:¬ left<=rM:=fun z=>g (gd.mpr z)
  rw [ar ∅];rw [O.ct] at h3;refine .inr ⟨rfl,t,us,_,h1,h2,h3,(ou fun x hx=>(jZ R x hx)).symm,?_⟩;have:=O.f.cut A.ly.pr;unfold hM tM;omega
def prX (prs:List Pr2) (x:V):List (Pr2×V):=prs.map fun e=>(e,x)
def PrX (b:Bool) (x:V) (H:Hp) (v:V) (e:Pr2):Prop:=∃ t q,v= .ref t/\H t=some (.tup [.ref q,x])/\qY H (iT b e) q/\VP b e
theorem PrX.ts {b:Bool}{x:V}{H H':Hp}(s:TS H H') {v:V}{e:Pr2}(h:PrX b x H v e):PrX b x H' v e:=by obtain ⟨t,q,e1,h1,h2,h3⟩:=h;exact ⟨t,q,e1,s _ _ h1,qY.ts s h2,h3⟩
theorem aP2 {b:Bool}{x:V}{H:Hp}{ys:List V}{prs:List Pr2}(tw:bC (PrX b x H) ys prs):pQ H ys ((prX prs x).map fun e=>(iT b e.1,e.2)):=by
 exists by rw [tw.length];unfold prX;rw [ae,ae],fun i e he=>?_;unfold prX at he;rw [cz,cp] at he
 cases q:prs[i]? with
 |none=>rw [q] at he;cases he
 |some z =>
  rw [q] at he
  cases he
  obtain ⟨v,hv,t,c,rfl,h1,h2,_⟩:=cY tw q;exact ⟨t,c,hv,h1,h2⟩
theorem aH8 {b:Bool}{x:V}{H:Hp}{ys:List V}{prs:List Pr2}(tw:bC (PrX b x H) ys prs):∀ e∈prX prs x,VP b e.1:=fun e he=>by
 obtain ⟨f,hf,rfl⟩:=am.mp he;obtain ⟨j,hj,ej⟩:=ij hf;obtain ⟨v,_,_,_,_,_,_,w⟩:=cY tw ((ak hj).trans (ed some ej));exact w
theorem aZ5 (prs:List Pr2) (x:V):(prX prs x).map (·.1)=prs:=by
 unfold prX;rw [cz];exact wv _
theorem bH9 {prs:List Pr2}{x:V}{e:Pr2}(h:e∈prs):bH (prX prs x) e=some x:=by
 induction prs with
 |nil=>exact absurd h cu
 |cons k ks ih =>
  by_cases c:k=e
  ·subst c;exact bR (p:=(k,x)) rfl
  ·exact (aZ (p:=(k,x)) (r:=prX ks x) c).trans (ih ((bo.mp h).resolve_left fun z=>c z.symm))
def mP (es:List (An×V)):List (An×V):=es.foldl (fun m e=>bF m e.1 e.2) []
theorem aC8 {es:List (An×V)}{i:Nat}{e:An×V}(h:es[i]?=some e):mP (es.take (i+1))=bF (mP (es.take i)) e.1 e.2:=by
 unfold mP;rw [aO h,ot];rfl
theorem wS:∀ (es m:List (An×V)),(es.foldl (fun m e=>bF m e.1 e.2) m).length<=m.length+es.length
 |[],m=>by simp
 |e :: r,m=>by
  have:=wS r (bF m e.1 e.2);have:=aK0 m e.1 e.2;rw [jd,dq];omega
theorem vC {b:Bool}:∀ (es m:List (An×V)),(∀ e∈es,VA b e.1)->(∀ e∈m,VA b e.1)->∀ e∈es.foldl (fun m e=>bF m e.1 e.2) m,VA b e.1
 |[],m,_,h=>h
 |e :: r,m,h1,h2=>vC r _ (fun x hx=>h1 x (ba _ hx)) fun x hx=>by
  rcases nS hx with q | ⟨z,hz,q⟩
  ·rw [q];exact h1 e bj
  ·rw [<- q];exact h2 z hz
theorem tU:∀ (es m:List (An×V)) (x:An),(bH (es.foldl (fun m e=>bF m e.1 e.2) m) x).isSome=true↔(x∈es.map (·.1)\/(bH m x).isSome=true)
 |[],m,x=>by simp
 |e :: r,m,x=>by
  rw [jd,tU r,sU,au,bo]
  by_cases c:x=e.1
  ·rw [bh c];simp [c]
  ·rw [ap c];simp [c]
theorem aS4 {b:Bool}{H:Hp}{d:Addr}{ys:List V}{es:List (An×V)}(tw:bC (PrA b H) ys es) (hz:es.length < sizeLine) (hd:H d=none) (ok:∀ e∈es,VA b e.1):nH H d ys fun i=>dB b (mP (es.take i)):=fun i hi=>by
 obtain ⟨e,he,t,u,e1,h1,h2⟩:=tw.at (ak hi);have l:=tw.length;have ts:TS H (aJ H d (dB b (mP (es.take i)))):=fun c xs q=>by rw [aE (aF q hd)];exact q
 have:=lJ (u:=e.2) (H:=aJ H d (dB b (mP (es.take i)))) (d:=d) aB (vC _ [] (fun x hx=>ok x (pc hx)) (fun _ z=>absurd z cu)) (h2.ts ts) (by
  have:=wS (es.take i) [];rw [bx] at this;unfold mP;simp at this;omega)
 rw [xJ] at this;exists t,u,e.2,by rw [ak hi,e1],h1,?_
 dsimp only
 rw [aC8 he];exact this
theorem wW {b:Bool}{H:Hp}{d:Addr}{es:List En}{v:V}{a:An}(D:rA b H d es) (hv:cV b H v a) {s:Int×Int}(h:jD es a=some s):∃ p,fJ H d v (some (.ref p))/\bP H p s.1 s.2:=by
 obtain ⟨o,g,r⟩:=D.get hv;rw [h] at r
 cases o with
 |none=>exact r.elim
 |some x =>
  obtain ⟨p,rfl,q⟩:=(show FrR H x s from r)
  exact ⟨p,g,q⟩
theorem bC1 {α: Type}{R:V->α->Prop}:∀ {us:List V}{as:List α},us.length=as.length->(∀ (i:Nat) v a,us[i]?=some v->as[i]?=some a->R v a)->bC R us as
 |[],[],_,_=>trivial
 |u :: us,a :: as,h,k=>⟨k 0 u a rfl rfl,bC1 (by simpa using h) fun i v x h1 h2=>k (i+1) v x (by simpa using h1) (by simpa using h2)⟩
 |[],_ :: _,h,_=>by simp at h
 |_ :: _,[],h,_=>by simp at h
theorem bL0 {as:List An}{x:An}{u:V}(h:x∈as):bH (as.map fun a=>(a,u)) x=some u:=by
 induction as with
 |nil=>exact absurd h cu
 |cons k ks ih =>
  by_cases c:k=x
  ·subst c;exact bR (p:=(k,u)) rfl
  ·exact (aZ (p:=(k,u)) (r:=ks.map fun a=>(a,u)) c).trans (ih ((bo.mp h).resolve_left fun z=>c z.symm))
theorem bH5 {as:List An}{x:An}{u:V}(h:x∉as):bH (as.map fun a=>(a,u)) x=none:=by
 induction as with
 |nil=>rfl
 |cons k ks ih =>
  rw [bo,not_or] at h;exact (aZ (p:=(k,u)) (r:=ks.map fun a=>(a,u)) (fun z=>h.1 z.symm)).trans (ih h.2)
theorem yW (n:Nat):(List.replicate n true).all id=true:=by induction n with | zero=>rfl | succ n ih=>rw [aBi,List.all_cons,ih];rfl
theorem wR (n:Nat):(List.replicate n false).any id=false:=by induction n with | zero=>rfl | succ n ih=>rw [aBi,qt,ih];rfl
theorem nU (c:Bool) (i:Nat):(List.replicate (i+1) c).map V.bl=(List.replicate i c).map V.bl++[V.bl c]:=by rw [List.replicate_succ',bp];rfl
end Mine
namespace L2
open PySem PySem.Spec PyProof.Rows
theorem bM0 {X:Cx}:jX X (compareOp .IsNot) (fun x y H Q=>∃ a b,x= .bl a/\y= .bl b/\Q (.bl (a != b)) H):=by
 intro pins s σ H x y v u Q I rx ry h;obtain ⟨a,b,rfl,rfl,q⟩:=h
 cases rx
 cases ry
 exact isnot_bool ⟨.bl (a != b),H,I,rfl,q⟩
end L2
namespace Mine
open PySem L2
def aL0 (P:Program) (w:World):Sp:=fun vs H Q E=>∃ b,aT9 P w b vs H Q E
variable {c1 c2:Int}{es1 es2:List En}{fac:Int×Int}{M M0:Int}{prs:List Pr2}
theorem uR.head {P:Program}{w:World}{b:Bool}{H:Hp}{r:Addr}{es1 es2:List En}{prs:List Pr2}{fac:Int×Int}{rM M:Int}{bk:Bool}(h:uR P w b H r es1 es2 prs fac rM M bk):∃ x,H r=some (.tup [.str (if bk=true then "broken" else "paired"),x]):=by
 rcases h with ⟨rfl,d,ps,l,h1,_⟩ | ⟨rfl,t,us,as,h1,_⟩
 ·exact ⟨_,h1⟩
 ·exact ⟨_,h1⟩
theorem aM5 (bk:Bool):decide (V.str (if bk=true then "broken" else "paired")=V.str "broken")=bk:=by cases bk <;> decide +kernel
theorem bS0 {H:Hp}{o:Option V}{es:List En}{a:An}(r:aB0 H o (jD es a)):o.isSome=eO (es.map fun e:En=>e.1) a:=by
 cases e:jD es a with
 |none =>
  rw [e] at r;have n:a∉es.map fun e:En=>e.1:=fun z=>by
   obtain ⟨f,hf,q⟩:=am.mp z;unfold jD at e;rw [aAc] at e;exact nh.mp e f hf (ar q)
  have i:eO (es.map fun e:En=>e.1) a=false:=dk n;rw [i]
  cases o with
  |none=>rfl
  |some _=>exact r.elim
 |some s =>
  rw [e] at r;have i:eO (es.map fun e:En=>e.1) a=true:=ar (am.mpr ⟨_,oI e,rfl⟩);rw [i]
  cases o with
  |none=>exact r.elim
  |some _=>rfl
theorem bY0:kW (0,1):=⟨⟨show (0:Int)<=0 by decide,show (0:Int) < 2 ^ 180 by decide⟩,⟨show (0:Int)<=1 by decide,show (1:Int) < 2 ^ 180 by decide⟩,show (1:Int)<=1 by decide⟩
theorem gS.fin (Z:gS c1 c2 es1 es2 fac M) (L:LyO prs (es1.map (·.1)) (es2.map (·.1))):∃ l left R,Fin prs (es1.map (·.1)) (es2.map (·.1)) (bD es1 M) (bD (bQ fac es2) M) l left R:=by
 obtain ⟨l,left,R,O⟩:=Z.outc (rest:=(0,1)) L bY0 (Int.one_dvd _);exact ⟨l,left,R,O.f⟩
theorem gS.wbd (Z:gS c1 c2 es1 es2 fac M) (L:LyO prs (es1.map (·.1)) (es2.map (·.1))) (i:Nat):0<=((eY (es1.map (·.1))).take i).foldl (gG prs (es1.map (·.1)) (es2.map (·.1)) (bD es1 M) (bD (bQ fac es2) M)) 0/\((eY (es1.map (·.1))).take i).foldl (gG prs (es1.map (·.1)) (es2.map (·.1)) (bD es1 M) (bD (bQ fac es2) M)) 0<=M:=by
 obtain ⟨l,left,R,F⟩:=Z.fin L;have t:=F.tot;rw [Z.sum1] at t;have n:=hJ F.nn;obtain ⟨a,b,_⟩:=aV9 (prs:=prs) (ks:=es1.map fun e:En=>e.1) (qs:=es2.map fun e:En=>e.1) (g:=bD es1 M) (h:=bD (bQ fac es2) M) ((eY (es1.map fun e:En=>e.1)).take i) 0 left ∅ F.l0 fun as _=>F.up (eO as)
 omega
theorem gS.w_scale (Z0:gS c1 c2 es1 es2 fac M0) (Z:gS c1 c2 es1 es2 fac M) (h:M0 ∣ M) (L:LyO prs (es1.map (·.1)) (es2.map (·.1))):wM prs es1 es2 fac M=wM prs es1 es2 fac M0 * (M / M0):=by
 obtain ⟨l,left,R,F⟩:=Z0.fin L;have k1:1<=M / M0:=qy (by have:=Z.m1;omega) (by have:=Z0.m1;omega) h;have F2:=F.mul (k:=M / M0) ∅;have e1:(fun x=>bD es1 M0 x * (M / M0))=bD es1 M:=funext fun x=>(jL (fun e he=>⟨(Z.o1.at he).1.b,(Z0.one he).2.2⟩) h Z0.m1 x).symm
 have lm:∀ e∈bQ fac es2,1<=e.2.2/\e.2.2 ∣ M0:=fun e he=>by
  obtain ⟨u,hu,rfl⟩:=am.mp he;show 1<=(cU fac u.2).2/\(cU fac u.2).2 ∣ M0;rw [(Z0.oth hu).2.2.1];exact ⟨cX Z0.m1,gR Z0.m1⟩
 have e2:(fun x=>bD (bQ fac es2) M0 x * (M / M0))=bD (bQ fac es2) M:=funext fun x=>(jL lm h Z0.m1 x).symm
 rw [e1,e2] at F2;unfold wM;rw [F2.worst L.pr,F.worst L.pr]
theorem gS.sh (Z:gS c1 c2 es1 es2 fac M) (a:An):cU fac (gY es2 a)=aK (bD (bQ fac es2) M a) M:=by
 have e:gY es2 a=aK (bD es2 c2 a) c2/\0<=bD es2 c2 a:=by
  by_cases h:a∈es2.map (·.1)
  ·obtain ⟨e,he,rfl⟩:=am.mp h;unfold gY;rw [mE Z.o2.nd e he];exact ⟨(Z.oth he).1,(Z.oth he).2.1⟩
  ·rw [nM h,dO Z.o2.c1];have:jD es2 a=none:=by
    unfold jD;rw [nh.mpr fun e he q=>h (am.mpr ⟨e,he,cf q⟩)];rfl
   unfold gY;rw [this];exact ⟨rfl,gi _⟩
 rw [e.1,Z.lim e.2,Z.two]
theorem gS.rest (Z:gS c1 c2 es1 es2 fac M):vY es2 fac es1=aK (jC (es1.map (·.1)) (bD es1 M) (bD (bQ fac es2) M)) M/\0<=jC (es1.map (·.1)) (bD es1 M) (bD (bQ fac es2) M)/\jC (es1.map (·.1)) (bD es1 M) (bD (bQ fac es2) M)<=M:=by
 have o0:0<=jC (es1.map (·.1)) (bD es1 M) (bD (bQ fac es2) M):=hJ fun x _=>by split <;> omega
 have o1:jC (es1.map (·.1)) (bD es1 M) (bD (bQ fac es2) M)<=M:=by
  unfold jC;have:=oV (f:=fun x=>if bD (bQ fac es2) M x < bD es1 M x then bD es1 M x - bD (bQ fac es2) M x else 0) (g:=bD es1 M) (l:=es1.map (·.1)) fun x _=>by
   have:=Z.nn1 x;have:=Z.nn2 x
   split <;> omega
  rw [Z.sum1] at this;exact this
 exists ?_,o0,o1;unfold vY qT;have ef:es1.filter (abv es2 fac)=es1.filter fun e=>decide (bD (bQ fac es2) M e.1 < bD es1 M e.1):=ou fun e he=>by
  unfold abv;rw [Z.sh,(Z.one he).1,gQ (Z.nn2 _) (Z.nn1 _) Z.m1]
 have em:(es1.filter (abv es2 fac)).map (fun e=>aQ0 e.2 (cU fac (gY es2 e.1)))=((es1.filter fun e=>decide (bD (bQ fac es2) M e.1 < bD es1 M e.1)).map fun e=>bD es1 M e.1 - bD (bQ fac es2) M e.1).map fun m=>aK m M:=by
  rw [ef,cz];refine ik fun e he=>?_
  obtain ⟨h1,h2⟩:=br.mp he;have h2:=cf h2;rw [Z.sh,(Z.one h1).1];exact zP (Z.nn2 _) ∅ Z.m1
 have es:((es1.filter fun e=>decide (bD (bQ fac es2) M e.1 < bD es1 M e.1)).map fun e=>bD es1 M e.1 - bD (bQ fac es2) M e.1).sum=jC (es1.map (·.1)) (bD es1 M) (bD (bQ fac es2) M):=by
  rw [gP];unfold jC;rw [cz];exact aY fun e _=>by
   by_cases c:bD (bQ fac es2) M e.1 < bD es1 M e.1
   ·simp [c]
   ·simp [c]
 have ms:=lE Z.m1 Z.m2 ((es1.filter fun e=>decide (bD (bQ fac es2) M e.1 < bD es1 M e.1)).map fun e=>bD es1 M e.1 - bD (bQ fac es2) M e.1) 0 ∅ (fun m hm=>by
  obtain ⟨e,he,rfl⟩:=am.mp hm;have:=cf (br.mp he).2;omega) (by rw [es];have:=Z.m2;omega)
 rw [em];rw [dO Z.m1,jw,es] at ms;exact ms.2
theorem yY {ks qs:List An}(nk:ks.Nodup) (nq:qs.Nodup) (zk:ks.length<=12) (zq:qs.length<=12):LyO (alike ks qs) ks qs:=by
 exists fun e he=>?_,?_,nk,nq,?_,∅,∅
 ·obtain ⟨x,hx,rfl⟩:=am.mp he;obtain ⟨h1,h2⟩:=br.mp hx;exact ⟨h1,cf h2⟩
 ·unfold alike;rw [oj,tm];exact (oj.mp (nk.sublist gq)).imp fun h z=>h (ed Prod.fst z)
 ·unfold alike;rw [ae];exact cy (de _ _) ∅
theorem gS.w_alike (Z:gS c1 c2 es1 es2 fac M):wM (alike (es1.map (·.1)) (es2.map (·.1))) es1 es2 fac M=jC (es1.map (·.1)) (bD es1 M) (bD (bQ fac es2) M):=by
 have L:=yY Z.o1.nd Z.o2.nd (by rw [ae];exact Z.o1.l2) (by rw [ae];exact Z.o2.l2);obtain ⟨l,left,R,F⟩:=Z.fin L;unfold wM;rw [F.worst L.pr];exact F.alike Z.o1.nd Z.o2.nd (fun x hx=>nM (es:=bQ fac es2) (by rw [jQ];exact hx)) Z.nn2
def top (i:Nat):Stmt:=PySem.Challenge.pw_pairedthrows_k31_whole_just_one_of_both.main.body.getD i (.Pass ⟨0,0,0,0⟩)
def inC (s:Stmt) (i:Nat):Stmt:=match s with
 |.ClassDef _ _ _ b _ _ _ _ _ _ _=>b.getD i (.Pass ⟨0,0,0,0⟩)
 |_=> .Pass ⟨0,0,0,0⟩
abbrev cC0:Stmt:=top 1
abbrev cB5:Stmt:=top 2
abbrev cA6:Stmt:=top 3
abbrev aU9:Stmt:=top 4
abbrev bE4:Stmt:=top 5
abbrev bN6:Stmt:=top 6
abbrev cF7:Stmt:=top 8
abbrev bM6:Stmt:=top 9
abbrev cH1:Stmt:=top 11
abbrev bZ2:Stmt:=inC (top 12) 0
abbrev cE8:Stmt:=top 13
abbrev cE7:Stmt:=top 14
abbrev cG8:Stmt:=top 15
abbrev cD7:Stmt:=top 16
abbrev cF1:Stmt:=top 17
abbrev cG3:Stmt:=top 18
abbrev cE5:Stmt:=top 19
abbrev cH6:Stmt:=top 20
abbrev cB9:Stmt:=top 21
abbrev cD5:Stmt:=top 22
abbrev cF8:Stmt:=top 23
abbrev cA9:Stmt:=top 24
abbrev cE2:Stmt:=top 25
abbrev bZ4:Stmt:=top 26
abbrev cE3:Stmt:=top 28
abbrev bO5:Stmt:=top 29
abbrev bD4:Stmt:=top 31
abbrev aU5:Stmt:=top 32
abbrev bM8:Stmt:=top 33
abbrev bN2:Stmt:=top 34
abbrev cB6:Stmt:=top 35
abbrev cA2:Stmt:=top 36
abbrev bO3:Stmt:=top 37
abbrev bN8:Stmt:=top 38
abbrev cA0:Stmt:=top 39
abbrev cD8:Stmt:=top 40
abbrev cF6:Stmt:=top 41
abbrev bP6:Stmt:=top 42
abbrev cG7:Stmt:=top 43
abbrev cH0:Stmt:=top 44
abbrev cB4:Stmt:=top 45
abbrev bZ1:Stmt:=top 46
abbrev cG2:Stmt:=top 47
abbrev aT4:Stmt:=top 48
section
variable {P:Program}{w:World}{K:W.Frag}{mg:Str->Option Value}{base:Heap}
theorem xP:mK ["_law_deal_here","_law_many","_law_number","_law_one","_law_other"] ["_law_deal_here","_law_many"] (bA aU5):=by refine ⟨rfl,rfl,rfl,?_,rfl,?_,?_⟩<;>decide +kernel
theorem bL4 {f:Addr}{fd:FuncData}(F:vD K "_law_draw" "_law_draw" aU5 f fd) (ml:mg "len"=none):nK P w K mg base CX0 1 f fd ["_law_deal_here","_law_many"] spDraw:=by
 refine F.ok xP (fun vs H Q E h=>?_) (fun cdv A outer s H vs Q E hr h=>?_)
 ·obtain ⟨d,l,m,rfl,_⟩:=h;rfl
 obtain ⟨d,l,m,rfl,⟨sd,n,ls,D⟩,hm0,hm1,k⟩:=h;have hu:=fP hr;refine ⟨_,aI (jV km (pW (oU iR (iW hu (pv 0) cK (fun _ _=>rfl)) aD (qD _)) (mM (oU lK (sP cD (by rfl) ml jb (aC (iW hu (pv 0) cK (fun _ _=>rfl)) gO)) aD (qD _)))).pt
   (aG (rN hu (pv 0) cK (bT1 gc ur ut bQ0 (iW hu (pv 0) cK (fun _ _=>rfl))) rfl)))
  (aI (mZ (i:=2) xP.nd rfl (jg rfl) (iW hu (pv 0) cK (fun _ _=>rfl)))
  (aI (cE (oU lK (pv 2) aD (qD _))
   (aI (rN hu (pv 0) cK (aR aV3 (pv 2) (pv 1)) rfl) (aG (aP (aR jE (pv 2) (pv 1))))) aU)
  (aI (mZ (i:=3) xP.nd rfl (jg rfl) (aR jE (aR fH (aR lS (iW hu (pv 0) cK (fun _ _=>rfl)) aD) aD) aD))
  (aI (rN hu (pv 0) cK (aR jE (aR fH (aR lS (pv 3) aD) aD) aD) rfl)
  (aI (mZ (i:=4) xP.nd rfl (jg rfl) (aR jE (aR lS (iW hu (pv 0) cK (fun _ _=>rfl)) (iW hu (pv 0) cK (fun _ _=>rfl))) aD))
  (aG (aP (aR jE (aR fH (aR lS (aR jE (aR lS (pv 3) (pv 3)) aD) aD) (pv 4)) (pv 1))))))))),?_⟩
 exists fun j σ H1=>∃ n' ls',σ=[some (.ref d),some (.int m),none,none,none]/\cF H1 d l sd n' ls'/\j=ls'.length/\dM d l H H1,⟨_,n,ls,rfl,D,rfl,dM.refl H⟩,?_;rintro j σ H1 ⟨n',ls',rfl,D1,rfl,o1⟩;exists _,rfl,d,_,rfl,D1.gn,rfl,_,rfl,?_;refine qV (fun c=>?a) (fun c=>cA7 ?b)
 case' a=>exists _,rfl,d,_,rfl,D1.gl,l,_,rfl,.inl (bK.of D1.lc),_,_,rfl,rfl,_,rfl,?_
 case' a=>refine qV (fun c2=>?loop) (fun c2=>?b2)
 case loop =>
   have hl:0 < ls'.length:=by
    have:=cf c2
    simpa using this
   obtain ⟨z,hz⟩:∃ z,ls'[ls'.length - 1]?=some z:=⟨ls'[ls'.length - 1],by simp⟩
   have hz2:(ls'.map V.int)[(ls'.map V.int).length - 1]?=some (.int z):=by rw [ae,cp,hz];rfl
   have z0:0<=z:=D1.l0 z (bq hz);have D2:cF (aJ H1 l (.lst (ls'.dropLast.map V.int))) d l sd n' ls'.dropLast:=D1.left fun x hx=>D1.l0 x (List.dropLast_subset _ hx)
   exists fun σ' H'=>σ'=[some (.ref d),some (.int m),none,none,none]/\cF H' d l sd z ls'.dropLast/\dM d l H H',fun σ' H' q=>⟨_,by rw [aAr];omega,z,ls'.dropLast,q.1,q.2.1,rfl,q.2.2⟩,?_;exists _,rfl,d,_,rfl,D1.gl,.inl ⟨rfl,_,bK.of D1.lc⟩,l,_,_,rfl,rfl,D1.lc,hz2,?_;have e:∀ (o:List V),(ls'.map V.int).dropLast=o->aJ H1 l (.lst (ls'.map V.int).dropLast)=aJ H1 l (.lst o):=fun o e=>by rw [e]
   rw [e _ List.map_dropLast.symm];exists _,rfl,d,_,rfl,D2.pn z,rfl,D2.number z0,o1.trans (dM.upd_l.trans dM.upd_d)
 all_goals
  exists _,rfl,d,_,rfl,D1.gn,?_;exists _,rfl,_,_,rfl,rfl,_,rfl,?_;refine qV (fun c3=>?_) (fun c3=>?_)
  ·have hp:0 < n':=cf c3;exists _,rfl,_,rfl,_,_,rfl,rfl,⟨hm0,∅⟩,_,rfl,d,_,rfl,D1.pn (n' / m),?_;exists _,rfl,_,rfl,_,_,rfl,rfl,hm0,?_;exact k _ _ (ny _ ∅) (qd _ hm0) ⟨_,_,_,D1.number (rh ∅ ∅)⟩ (o1.trans dM.upd_d)
  ·
   have q1:(0:Int) < 2147483647:=by decide
   exists _,rfl,d,_,rfl,D1.gs,_,_,rfl,rfl,.inr ⟨by decide,by decide⟩,_,_,rfl,rfl,_,_,rfl,rfl,q1,?_;have q2:(0:Int) < 2147483399:=by decide
   exists _,rfl,_,_,rfl,rfl,.inr ⟨by decide,by decide⟩,_,_,rfl,rfl,_,_,rfl,rfl,q2,_,rfl,d,_,rfl,D1.ps _,?_;have D2:=D1.seed (v:=((sd * 48271+7919) % 2147483647 * 40692+104729) % 2147483399) ∅ ∅;have q3:(0:Int) < 2147483563:=by decide
   have q4:(0:Int) < 2147483629:=by decide
   exists _,rfl,d,_,rfl,D2.gs,_,rfl,d,_,rfl,D2.gs,_,_,rfl,rfl,.inr ⟨∅,∅⟩,_,_,rfl,rfl,q3,?_;exists _,rfl,_,rfl,_,_,rfl,rfl,.inr ⟨∅,∅⟩,_,_,rfl,rfl,q4,_,_,rfl,rfl,.inr ⟨by decide,by decide⟩,_,rfl,_,_,rfl,rfl,_,rfl,_,_,rfl,rfl,hm0,?_;exact k _ _ (ny _ ∅) (qd _ hm0) ⟨_,_,_,D2⟩ (o1.trans dM.upd_d)
end
theorem aE7 (x n:Int) (l:Addr):lR [] (eM x n l)=eM x n l:=by
 unfold lR eM;simp only [List.foldl_cons,List.foldl_nil];have e1:bF ([]:List (Key×V)) (Sum.inr ("seed": Str)) (V.int x)=[(Sum.inr ("seed": Str),V.int x)]:=rfl;have e2:bF [(Sum.inr ("seed": Str),V.int x)] (Sum.inr ("number": Str):Key) (V.int n)=[(Sum.inr ("seed": Str),V.int x),(Sum.inr ("number": Str),V.int n)]:=jM _ (by rw [aZ ksn,aA4]);have e3:bF [(Sum.inr ("seed": Str),V.int x),(Sum.inr ("number": Str),V.int n)] (Sum.inr ("left": Str):Key) (V.ref l)=[(Sum.inr ("seed": Str),V.int x),(Sum.inr ("number": Str),V.int n)]++[(Sum.inr ("left": Str),V.ref l)]:=jM _ (by rw [aZ ksl,aZ knl,aA4]);rw [e1,e2,e3];rfl
theorem aX2:(["_law_cell"]:List Str).Nodup:=by decide +kernel
theorem aZ6 (ns:List Int) (lo hi:Option Int):∃ ms:List Int,xS (ns.map V.int) lo hi=ms.map V.int/\ms.length<=ns.length:=by
 exists (ns.drop (HT.sIx ns.length 0 lo)).take (HT.sIx ns.length ns.length hi - HT.sIx ns.length 0 lo),?_,?_
 ·unfold xS;rw [ae,List.map_take,List.map_drop]
 ·rw [bx,List.length_drop];omega
section
variable {P:Program}{w:World}{K:W.Frag}{mg:Str->Option Value}{base:Heap}
theorem uC:mK ["_law_script","_law_base","_law_cells","_law_number","_law_cell"] ["_law_script","_law_base"] (bA bD4):=by refine ⟨rfl,rfl,rfl,?_,rfl,?_,?_⟩<;>decide +kernel
theorem bG7 {f:Addr}{fd:FuncData}(F:vD K "_law_deal" "_law_deal" bD4 f fd) (mm:mg "max"=none) (mr:mg "reversed"=none) (ml:mg "list"=none):nK P w K mg base CX0 1 f fd ["_law_script","_law_base"] (aX8 K):=by
 refine F.ok uC (fun vs H Q E h=>?_) (fun cdv A outer s H vs Q E hr h=>?_)
 ·obtain ⟨a,ns,b,rfl,_⟩:=h;rfl
 obtain ⟨a,ns,b,rfl,hS,hlen,hb0,hb1,k⟩:=h;refine ⟨_,aI (iB ["_law_cell"] [none] (i:=2) uC.nd rfl (jg rfl) (cH (bC8 bG4 (pv 0) (aL3 (pv 1)) (aL3 aD)))
   (fun _ _ _ _=>rR (i:=0) aX2 rfl (jg rfl)) (fun _ _ _ _=>cN) (fun _ _ _ _=>sP (aN2 rfl) (by rfl) mm aAl (aC (pv 0) (aC (aR pF aD (pv 0)) gO))))
  (aI (mZ (i:=3) uC.nd rfl (jg rfl) (aR fH aD (pv 1)))
  (aI (aY5 km rfl (cH (pv 2)) (rR (i:=4) uC.nd rfl (jg rfl))
   (aG (mZ (i:=3) uC.nd rfl (jg rfl) (aR jE (aR fH (aR lS (pv 3) aD) (aR jE (pv 4) aD)) aD))))
  (aG (aP (bH0 (sK cK (pv 3) (sK cK aD (sK cK (aI1 (bJ ["_law_cell"] [none] (cH (pv 2))
   (fun _ _ _ _=>rR (i:=0) aX2 rfl (jg rfl)) (fun _ _ _ _=>gM (oU bZ8 (pv 0) (aR aC9 aD aD) (qD _))) (fun _ _ _ _=>pv 0)) (by rfl) ml (by rfl) mr) bL6))) rfl rfl (by decide) (by decide)))))),?_⟩
 exists _,rfl,_,rfl,_,rfl,_,rfl,a,_,rfl,hS,fun p1 np1=>?_;obtain ⟨ms,em,hms⟩:=aZ6 ns (some b) (some 63);have g1:aN H (aJ H p1 (.lst (xS (ns.map V.int) (some b) (some 63)))):=aA np1 _;have hp1:bK K (aJ H p1 (.lst (xS (ns.map V.int) (some b) (some 63)))) p1 (ms.map V.int):=by rw [em];exact bK.of aB
 generalize aJ H p1 (.lst (xS (ns.map V.int) (some b) (some 63)))=H1 at g1 hp1 ⊢;refine ⟨p1,rfl,⟨_,hp1⟩,cR (xs:=ms.map V.int) (fun i ys σ H2=>H2=H1/\(∃ v,σ=[v])/\∃ cs:List Int,ys=cs.map V.int/\cs.length=i/\∀ x∈cs,0<=x)
  (by rw [ae];exact aH ∅) ⟨rfl,⟨_,rfl⟩,[],rfl,rfl,fun _ z=>nomatch z⟩ (fun i ys σ H2 ⟨_,_,cs,e1,e2,_⟩=>by rw [e1,ae];omega) (fun i ys σ H2 _ ⟨e,_⟩=>by rw [e];exact hp1) ?_ ?_⟩
 ·rintro i x ys σ H2 hx ⟨rfl,⟨v,rfl⟩,cs,rfl,rfl,h0⟩;obtain ⟨z,rfl,_⟩:=rX hx;exists _,rfl,_,rfl,_,_,rfl,rfl,_,_,rfl,rfl,⟨_,rfl⟩,cs++[if 0 - z > z then 0 - z else z],by rw [bp];rfl,by rw [cq];rfl,fun x hx=>?_;rcases cj.mp hx with q | q
  ·exact h0 x q
  ·have e:x=if 0 - z > z then 0 - z else z:=by simpa using q
   rw [e];split <;> omega
 rintro ys σ H2 ⟨rfl,_,cs,rfl,hcs,h0⟩ p2 np2;have hm63:cs.length<=63:=by rw [ae] at hcs;omega
 have g2:aN H2 (aJ H2 p2 (.lst (cs.map V.int))):=aA np2 _;have hp2:bK K (aJ H2 p2 (.lst (cs.map V.int))) p2 (cs.map V.int):=bK.of aB;generalize aJ H2 p2 (.lst (cs.map V.int))=H3 at g2 hp2 ⊢;exists _,rfl,_,_,rfl,rfl,?_;refine ⟨_,rfl,p2,rfl,⟨_,hp2⟩,gW (K:=K) (a:=p2) (xs:=cs.map V.int) (fun i σ H4=>H4=H3/\∃ (x:Int) (v:Option V),σ=[some (.ref a),some (.int b),some (.ref p2),some (.int x),v]/\0<=x/\x < 2147483647)
  ⟨rfl,7919+b,none,rfl,∅,∅⟩ (fun i σ H4 _ ⟨e,_⟩=>by rw [e];exact hp2) ?_ ?_⟩
 ·rintro i y σ H4 hi ⟨rfl,x,v,rfl,x0,x1⟩;obtain ⟨z,rfl,_⟩:=rX hi;have q1:(0:Int) < 2147483629:=by decide
  have q2:(0:Int) < 2147483647:=by decide
  exists _,rfl,_,_,rfl,rfl,.inr ⟨by decide,by decide⟩,_,rfl,_,_,rfl,rfl,q1,_,_,rfl,rfl,_,_,rfl,rfl,q2,rfl,_,_,rfl,?_,?_
  ·exact ny _ (by decide)
  ·exact qd _ q2
 rintro σ H4 ⟨rfl,x,v,rfl,x0,x1⟩;intro d nd;have g4:aN H4 (aJ H4 d (.dK [])):=aA nd _;have hd4:aJ H4 d (.dK []) d=some (.dK []):=aB;have hp4:=g4.seq hp2;exists _,rfl,_,rfl,p2,rfl,⟨_,hp4⟩,?_;generalize aJ H4 d (.dK [])=H5 at g4 hd4 hp4 ⊢;refine cR (xs:=cs.map V.int) (fun i ys σ H6=>H6=H5/\(∃ v,σ=[v])/\∃ ls:List Int,ys=ls.map V.int/\ls.length<=i/\∀ x∈ls,0<=x)
  (by rw [ae];exact aH ∅) ⟨rfl,⟨_,rfl⟩,[],rfl,ao _,fun _ z=>nomatch z⟩ (fun i ys σ H2 ⟨_,_,cs,e1,e2,_⟩=>by rw [e1,ae];omega) (fun i ys σ H2 _ ⟨e,_⟩=>by rw [e];exact hp4) ?_ ?_
 ·rintro i y ys σ H6 hy ⟨rfl,⟨v',rfl⟩,ls,rfl,hl,l0⟩;obtain ⟨z,rfl,hz⟩:=rX hy;have z0:0<=z:=h0 z (bq hz);exists _,rfl,_,_,rfl,rfl,⟨by decide,by decide,by decide⟩,_,_,rfl,rfl,_,rfl,?_;refine qV (fun c=>?_) (fun c=>?_)
  ·exists _,rfl,rfl,⟨_,rfl⟩,ls++[z],by rw [bp];rfl,by rw [cq];show ls.length+1<=i+1;omega,fun x hx=>?_;rcases cj.mp hx with q | q
   ·exact l0 x q
   ·have e:x=z:=by simpa using q
    rw [e];exact z0
  ·exact ⟨rfl,⟨_,rfl⟩,ls,rfl,Nat.le_succ_of_le hl,l0⟩
 rintro ys σ H6 ⟨rfl,_,ls,rfl,hl,l0⟩ p3 np3;have g5:aN H6 (aJ H6 p3 (.lst (ls.map V.int))):=aA np3 _;exists p3,_,rfl,bK.of aB,fun l nl=>?_;generalize aJ H6 p3 (.lst (ls.map V.int))=H7 at g5 nl ⊢;have g6:aN H7 (aJ H7 l (.lst (ls.map V.int).reverse)):=aA nl _;have hd7:H7 d=some (.dK []):=g5 _ _ hd4;exists g6 _ _ hd7,eM x 0 l,rfl,by show 3<=15;decide,?_;have em:lR [] (eM x 0 l)=eM x 0 l:=aE7 _ _ _;have neld:l≠d:=fun z=>by rw [z] at nl;rw [nl] at hd7;cases hd7
 refine k d l _ ?_ ?_ ⟨x,0,ls.reverse,⟨by rw [em];exact aB,by rw [aE neld,aB,List.map_reverse],x0,x1,gi 0,fun y hy=>l0 y (by simpa using hy)⟩⟩ ?_
 ·exact (g1.trans g2).free nd
 ·exact (g1.trans (g2.trans (g4.trans g5))).free nl
 ·intro c o e;rw [aE (aF e ((g1.trans g2).free nd))];exact (g1.trans (g2.trans (g4.trans (g5.trans g6)))) c o e
theorem bT4 {b:Bool}  : gX P w K mg base "grouped" "grouped" cH1 2 ["pairs"] (bP3 K b):=by
 refine jK ["pairs","groups","key","partner"] fun H Q nd hr h=>?_
 obtain ⟨p,ws,prs,rfl,hp,hw,hz,k⟩:=h;have hu2:=bX2 hr;refine ⟨_,(gF 1 nd (bL2 b)
  (aI (wK (aZ1 (cH (pv 0)) (cM (pv 0))) (gC rfl (aL (cW 2 nd) (aL (cW 3 nd) bE)))
  (aG (hX (qL gc jh ji iG (bA3 hu2 (pv 1) (pv 2) (fF gO) ⟨rfl,rfl,rfl,rfl⟩) (aS (pv 3))))))
  (aG (aP (pv 1))))),?_⟩
 refine fun g hg=>?_
 have lw:=hw.length;rcases hp with hp | hp
 refine .inl ⟨_,rfl,p,rfl,⟨_,(aA hg (dB b [])).seq hp⟩,gW (xs:=ws) (fun i σ G=>∃ es v2 v3,σ=[some (.ref p),some (.ref g),v2,v3]/\GpI b H G g prs i es) ⟨[],none,none,rfl,.start hg⟩ (by rintro i σ G _ ⟨_,_,_,_,I⟩;exact I.s.seq hp) ?_ ?_⟩
 rotate_left 2
 refine .inr ⟨_,rfl,p,rfl,⟨_,pT (aA hg (dB b [])) hp⟩,iV (xs:=ws) (fun i σ G=>∃ es v2 v3,σ=[some (.ref p),some (.ref g),v2,v3]/\GpI b H G g prs i es) ⟨[],none,none,rfl,.start hg⟩ (by rintro i σ G _ ⟨_,_,_,_,I⟩;exact pT I.s hp) ?_ ?_⟩
 all_goals first
  |rintro i v σ G hv ⟨es,v2,v3,rfl,I⟩
   obtain ⟨e,hi,a,x,y,rfl,ha,vx,vy⟩:=hw.at hv;obtain ⟨kx,ky⟩:=e;have hl:i < prs.length:=(bw.mp hi).1;have le:=I.q.z;rw [bx] at le;have ts:=TS.of I.s;have vxG:=vx.ts ts;have vyG:=vy.ts ts;exists a,_,rfl,aT.of (I.s _ _ ha),rfl,_,_,rfl,_,_,rfl,rfl,?_;exists _,rfl,g,rfl,jH I.q.d,_,rfl,df _,fun z hz=>?_;have ok:∀ e∈gL es,VA b e.1:=fun e he=>by
    obtain ⟨f,hf,rfl⟩:=am.mp he;exact I.q.v f hf
   have sz:=aA hz (.lst []);have tz:=TS.of sz;exists _,_,dY (sz _ _ I.q.d) ok (vxG.ts tz),lJ (sz _ _ I.q.d) ok (vxG.ts tz) ?_,fun v hv=>?_,fun hv=>?_
   ·unfold gL;rw [ae];exact aH ∅
   ·by_cases c:kx∈es.map (·.1)
    ·obtain ⟨⟨x',r⟩,hr,e⟩:=am.mp c
     cases e
     rw [sY I.q.m hr] at hv
     cases hv
     obtain ⟨us,gr,tu⟩:=I.q.l _ hr;have lp:(dF (prs.take i) x').length<=1000:=by
      unfold dF;rw [ae];exact cy (de _ _) (by rw [bx];omega)
     exact ⟨.inl ⟨rfl,_,bK.of (sz _ _ gr)⟩,_,rfl,r,_,y,rfl,rfl,sz _ _ gr,by rw [tu.length];exact aH lp,es,_,_,rfl,I.old hz hr hi gr tu vyG⟩
    ·rw [rQ c] at hv
     cases hv
   ·by_cases c:kx∈es.map (·.1)
    ·obtain ⟨⟨x',r⟩,hr,e⟩:=am.mp c
     cases e
     rw [sY I.q.m hr] at hv
     cases hv
    ·have zg:z≠g:=(aF I.q.d hz).symm;have gz:aJ (aJ G z (.lst [])) g (dB b (bF (gL es) kx (.ref z))) z=some (.lst []):=by rw [aE zg];exact aB
     exact ⟨.inl ⟨rfl,_,bK.of gz⟩,_,rfl,z,[],y,rfl,rfl,gz,by show 0 < sizeLine;decide,_,_,_,rfl,I.new hg hz c vxG.va hi vyG⟩
  |rintro σ G ⟨es,v2,v3,rfl,I⟩
   have q:=I.q;rw [lw,be] at q;exact ⟨_,rfl,k _ g es I.s hg q I.f⟩
theorem bW9  : gX P w K mg base "common_divisor" "common_divisor" cC0 1 ["one","other"] spGcd:=by
 refine jK ["one","other","remainder"] fun H Q nd hr h=>?_
 obtain ⟨a,b,rfl,ha,hb,k⟩:=h;refine ⟨_,(aI (jV km (iL uO (pv 1) aD)
  (gF 2 nd (aR jE (pv 0) (pv 1))
  (gF 0 nd (pv 1)
  (aG (psz 1 nd (pv 2))))))
  (aG (aP (pv 0)))),?_⟩
 exists fun j σ H1=>H1=H/\∃ (x y:Int) (r:Option V),σ=[some (.int x),some (.int y),r]/\0<=x/\0<=y/\gI x y=gI a b/\j=y.toNat,⟨_,rfl,a,b,none,rfl,ha,hb,rfl,rfl⟩,?_;rintro j σ H1 ⟨rfl,x,y,r,rfl,hx,hy,hg,rfl⟩;exists _,rfl,rfl,_,rfl,?_
 by_cases y0:y=0
 ·subst y0;refine bZ3 rfl ⟨_,rfl,?_⟩;rw [<- hg,aL5 hx] at k;exact k
 ·have yp:0 < y:=∅
  have e:(!decide (V.int y=V.int 0))=true:=by simp [y0]
  rw [e];exists fun σ' H'=>H'=H1/\∃ r',σ'=[some (.int y),some (.int (x % y)),r'],fun σ' H' ⟨e1,r',e2⟩=>⟨(x % y).toNat,?_,e1,y,x % y,r',e2,hy,ny _ y0,(aB8 hx yp).trans hg,rfl⟩,?_
  ·have:=qd x yp;have:=ny x y0;omega
  ·exact ⟨_,rfl,_,rfl,_,_,rfl,rfl,yp,_,rfl,_,rfl,rfl,_,rfl⟩
theorem bS9 (C_Gcd:Cl P w K mg base 1 spGcd "common_divisor"):gX P w K mg base "common_bottom" "common_bottom" cE8 2 ["fractions"] (bO1 K):=by
 refine jK ["fractions","bottom","fraction"] fun H Q nd hr h=>?_
 obtain ⟨p,ws,fs,M,rfl,hp,tw,h1,hM,hM1,bM,k⟩:=h;have hu:=fP hr;refine ⟨_,(gF 1 nd aD
  (aI (wK (cH (pv 0)) (cW 2 nd)
  (aG (psz 1 nd (aR aA2 (aR aJ6 (pv 1) (cQ aM (pv 2) aD)) (cP C_Gcd hr (aC (pv 1) (aS (cQ aM (pv 2) aD))))))))
  (aG (aP (pv 1))))),?_⟩
 have lt:=pR h1 hM;have lw:=tw.length;exists _,rfl,p,rfl,⟨_,hp⟩,gW (xs:=ws) (fun i σ G=>∃ v,σ=[some (.ref p),some (.int (qX (fs.take i))),v]/\G=H) ⟨none,rfl,rfl⟩ (by rintro i σ G _ ⟨_,_,e⟩;rw [e];exact hp) ?_ ?_
 ·rintro i x σ G hx ⟨v,rfl,rfl⟩;obtain ⟨u,hu,q,rfl,hq⟩:=tw.at hx;have mu:=bq hu;obtain ⟨b1,b2,b3⟩:=lt i;have u1:=h1 u mu;have bb:=uD b3 hM1 bM;have bu:=uD (hM u mu) hM1 bM;have g0:0 < gI (qX (fs.take i)) u.2:=tD u1;have gb:hU 2000 (gI (qX (fs.take i)) u.2):=uD (qw (rO (show 0<=u.2 by omega)) (hM u mu)) hM1 bM;exists _,rfl,_,rfl,q,_,_,_,rfl,rfl,aT.of hq,mS u.1 u.2,_,_,rfl,rfl,⟨2000,2000,bb,bu,by decide,by decide⟩,?_;exists _,rfl,_,rfl,q,_,_,_,rfl,rfl,aT.of hq,mS u.1 u.2,_,u.2,rfl,∅,∅,_,_,rfl,rfl,⟨g0,2000,gb,by decide⟩,?_;exists some (.ref q),?_,rfl;rw [aO hu,wB];rfl
 ·rintro σ G ⟨v,rfl,rfl⟩;rw [lw,be];exact ⟨_,rfl,k⟩
theorem bW0  : gX P w K mg base "amount_of" "amount_of" cE7 1 ["fraction","bottom"] spAmt:=by
 refine jK ["fraction","bottom"] fun H Q nd hr h=>?_
 obtain ⟨p,u,b,rfl,hp,h1,bn,bd,b0,bb,k⟩:=h;exists _,(aG (aP (aR aJ6 (cQ aM (pv 0) aD) (aR aA2 (pv 1) (cQ aM (pv 0) aD))))),?_;exact ⟨_,rfl,p,_,_,_,rfl,rfl,aT.of hp,tO u.1 u.2,_,rfl,_,rfl,p,_,_,_,rfl,rfl,aT.of hp,mS u.1 u.2,_,_,rfl,rfl,⟨∅,2000,bd,by decide⟩,_,_,rfl,rfl,⟨2000,2000,bn,bE0 bb b0 h1,by decide,by decide⟩,k⟩
theorem bU6 {b:Bool}(C_Amt:Cl P w K mg base 1 spAmt "amount_of") (m_dict:mg "dict"=none):gX P w K mg base "amounts_of" "amounts_of" cG8 2 ["shares","bottom"] (bO4 K b):=by
 refine jK ["shares","bottom"] fun H Q nd hr h=>?_
 obtain ⟨p,ws,es,bt,rfl,hp,tw,nd',hz,oks,b0,bb,k⟩:=h;have hu:=fP hr;have hr1:bU 1 _:=hr.mono (by decide);exists _,(aG (aP (vH (nG hr1) m_dict fi (aS (bJ ["answer","share","bottom"] [none,none,some 1] (aZ1 (cH (pv 0)) (cM (pv 0))) (fun _ _ _ _=>(kT K (n:=2) rfl (aL (cW 0) (aL (cW 1) bE)))) (fun _ _ _ _=>cN) (fun _ _ _ _=>(aW (aC (pv 0) (aS (cP C_Amt hr (aC (pv 1) (aS (pv 2))))))))))))),?_;have lw:=tw.length;rcases hp with hp | hp
 refine .inl ⟨_,rfl,p,rfl,⟨_,hp⟩,cR (xs:=ws) (fun i ys σ G=>aN H G/\(∃ v1 v2,σ=[v1,v2,some (.int bt)])/\bC (PrA b G) ys (amL (es.take i) bt)) (aH ∅) ⟨aN.refl _,⟨_,_,rfl⟩,trivial⟩ (by rintro i ys σ G ⟨_,_,t⟩;unfold amL at t;rw [t.length,ae,bx];omega) (by rintro i ys σ G _ ⟨s,_⟩;exact s.seq hp) ?_ ?_⟩
 rotate_left 2
 refine .inr ⟨_,rfl,p,rfl,⟨_,hp⟩,cC (xs:=ws) (fun i ys σ G=>aN H G/\(∃ v1 v2,σ=[v1,v2,some (.int bt)])/\bC (PrA b G) ys (amL (es.take i) bt)) (aH ∅) ⟨aN.refl _,⟨_,_,rfl⟩,trivial⟩ (by rintro i ys σ G ⟨_,_,t⟩;unfold amL at t;rw [t.length,ae,bx];omega) (by rintro i ys σ G _ ⟨s,_⟩;exact pT s hp) ?_ ?_⟩
 all_goals first
  |rintro i x ys σ G hx ⟨s,⟨v1,v2,rfl⟩,t⟩
   obtain ⟨e,he,t1,u,q,rfl,h1,hu,h2⟩:=tw.at hx;have me:=bq he;obtain ⟨o1,o2,o3⟩:=oks e me;exists t1,_,rfl,aT.of (s _ _ h1),rfl,_,_,rfl,_,_,rfl,rfl,?_;exists _,rfl,_,rfl,_,rfl,q,e.2,bt,rfl,s _ _ h2,o1,o2,o3,b0,bb,cT,fun r hr=>?_;exists s.trans (aA hr _),⟨_,_,rfl⟩,?_;have tsr:=TS.of (aA hr (.tup [u,.int (iD e.2 bt)]));rw [aO he];unfold amL at t ⊢;rw [bp];exact bC.append (t.mono (by rintro _ _ ⟨c,w,w1,w2,w3⟩;exact ⟨c,w,w1,tsr _ _ w2,w3.ts tsr⟩)) ⟨⟨r,u,rfl,aB,(hu.ts (TS.of s)).ts tsr⟩,trivial⟩
  |rintro ys σ G ⟨s,_,t⟩ l hl
   rw [lw,be] at t;have ly:=t.length;have tsl:=TS.of (aA hl (.lst ys));have la:(amL es bt).length=es.length:=ae ..;have va:∀ e∈amL es bt,VA b e.1:=fun e he=>by
    obtain ⟨f,hf,rfl⟩:=am.mp he;obtain ⟨j,hj,ej⟩:=ij hf;obtain ⟨v,_,_,_,_,_,_,w,_⟩:=cY tw ((ak hj).trans (ed some ej));exact w.va
   have nda:((amL es bt).map (·.1)).Nodup:=by
    unfold amL;rw [cz];exact nd'
   exists l,ys,fun i=>dB b ((amL es bt).take i),rfl,aB,rH b,fun d hd=>⟨tW (t.mono (by rintro _ _ ⟨c,w,w1,w2,w3⟩;exact ⟨c,w,w1,tsl _ _ w2,w3.ts tsl⟩)) nda (aH ∅) hd va,?_⟩;have s2:=(aA hl (.lst ys)).trans (aA hd (dB b (amL es bt)));rw [ly]
   dsimp only
   rw [be];exact k _ d (s.trans s2) (s.free ((aA hl (.lst ys)).free hd)) (by rw [aB,bY7 nd'])
theorem bY5 {b:Bool}{cL:Addr}(T:LyT K cL)  (C_Gpd:Cl P w K mg base 2 (bP3 K b) "grouped") (m_dict:mg "dict"=none):gX P w K mg base "__init__" "Laying.__init__" bZ2 3 ["self","one_left","other_left","pairs"] (aG8 P w K b cL):=by
 refine jK ["self","one_left","other_left","pairs"] fun H Q nd hr h=>?_
 obtain ⟨x,a,c,p,dx,ws,prs,ks,qs,f,h,rfl,hx,ha,hb,nab,hp,hw,nd',hz,vk,vq,k⟩:=h;have hu:=fP hr;refine ⟨_,(aI (sL (pv 0) (pv 1) rfl)
  (aI (sL (pv 0) (pv 2) rfl)
  (aI (sL (pv 0) (cP C_Gpd hr (aS (pv 3))) rfl)
  (aI (sL (pv 0) (cP C_Gpd hr (aS (bJ ["x","y"] [none,none] (cM (pv 3)) (fun _ _ _ _=>(kT K (n:=2) rfl (aL (cW 0) (aL (cW 1) bE)))) (fun _ _ _ _=>cN) (fun _ _ _ _=>(aW (aC (pv 1) (aS (pv 0)))))))) rfl)
  (aG (sL (pv 0) (vH (kJ hr) m_dict fi (aS (bJ ["pair"] [none] (cM (pv 3)) (fun _ _ _ _=>(cW 0)) (fun _ _ _ _=>cN) (fun _ _ _ _=>(aW (aC (pv 0) (aS aD))))))) rfl)))))),?_⟩
 have lw:=hw.length;have nax:=bN hx ha lT |>.symm;have nbx:=bN hx hb lT |>.symm;have npx:=bN hp hx (by intro z;cases z);exists _,rfl,_,rfl,x,cL,dx,_,rfl,hx,T.cl,T.n1,by decide,?_;exists _,rfl,_,rfl,x,cL,dx,_,rfl,aB,T.cl,T.n2,by show 1 < 1000;decide,?_;rw [xJ];obtain ⟨H2,e2,o2,h2,_⟩:=rL (fs':=eU "other_left" (.ref c) (eU "one_left" (.ref a) [])) hx;rw [e2];have w2:bC (jJ b H2) ws prs:=hw.mono fun _ _ z=>z.ts (o2.ts hx)
 exists _,rfl,p,ws,prs,rfl,.inr (aT.of (o2 _ _ npx hp)),w2,∅,fun H3 g es s3 hg G3 hf=>?_;have h3:=s3 _ _ h2;have ngx:=(bN h3 G3.d lT).symm;exists _,rfl,x,cL,dx,_,rfl,h3,T.cl,T.n3,db (xB (xB (ao 0))) (by decide),?_;obtain ⟨H4,e4,o34,h4,tx,n4⟩:=rL (fs':=eU "partners" (.ref g) (eU "other_left" (.ref c) (eU "one_left" (.ref a) []))) h3;rw [e4];have o4:=(o2.same s3).trans o34;have G4:tZ b H4 g prs es:=G3.keep tx (fun o e=>by rw [n4 _ ngx];exact e) fun e he o q=>by rw [n4 _ (aF h2 (hf e he)).symm];exact q
 have p4:=o4 _ _ npx hp;have w4:bC (jJ b H4) ws prs:=hw.mono fun _ _ z=>z.ts (o4.ts hx)
 exists _,rfl,p,rfl,⟨_,aT.of p4⟩,cC (xs:=ws) (fun i ys σ G=>aN H4 G/\(∃ v1 v2,σ=[v1,v2])/\bC (jJ b G) ys ((prs.take i).map fun e=>(e.2,e.1))) (aH ∅) ⟨aN.refl _,⟨_,_,rfl⟩,trivial⟩ (by rintro i ys σ G ⟨_,_,t⟩;rw [t.length,ae,bx];omega) (by rintro i ys σ G _ ⟨s,_⟩;exact aT.of (s _ _ p4)) ?_ ?_
 ·rintro i u ys σ G hu ⟨s,⟨v1,v2,rfl⟩,t⟩;obtain ⟨e,hi,q,y,z,rfl,hq,vy,vz⟩:=w4.at hu;exists q,_,rfl,aT.of (s _ _ hq),rfl,_,_,rfl,_,_,rfl,rfl,?_;exists _,rfl,_,rfl,cT,fun r hr=>⟨s.trans (aA hr _),⟨_,_,rfl⟩,?_⟩;have tr:=TS.of (aA hr (.tup [z,y]));rw [aO hi,bp];exact bC.append (t.mono fun _ _ w=>w.ts tr) ⟨⟨r,z,y,rfl,aB,(vz.ts (TS.of s)).ts tr,(vy.ts (TS.of s)).ts tr⟩,trivial⟩
 rintro ys σ G ⟨s,_,t⟩ l hl;rw [lw,be] at t;exists l,ys,prs.map fun e=>(e.2,e.1),rfl,.inl (bK.of aB),t.mono (fun _ _ w=>w.ts (TS.of (aA hl _))),by rw [ae];omega,fun H5 v es' s5 hv G5 hf'=>?_;have s45:=(s.trans (aA hl _)).trans s5;have h5:=s45 _ _ h4;have nvx:=(bN h5 G5.d lT).symm;exists _,rfl,x,cL,dx,_,rfl,h5,T.cl,T.n4,db (xB (xB (xB (ao 0)))) (by decide),?_;have hs':∀ e∈es',H4 e.2=none:=fun e he=>s.free ((aA hl _).free (hf' e he))
 have nav:=aF (aA hl (.lst ys) _ _ (s _ _ (o4 _ _ nax ha))) hv;have nbv:=aF (aA hl (.lst ys) _ _ (s _ _ (o4 _ _ nbx hb))) hv;have nag:=aF (o2 _ _ nax ha) hg;have nbg:=aF (o2 _ _ nbx hb) hg;have fx:∀ e∈es,e.2≠x:=fun e he=>(aF h2 (hf e he)).symm
 have fx':∀ e∈es',e.2≠x:=fun e he=>(aF h4 (hs' e he)).symm
 obtain ⟨H6,e6,o56,h6,t56,n6⟩:=rL (fs':=eU "givers" (.ref v) (eU "partners" (.ref g) (eU "other_left" (.ref c) (eU "one_left" (.ref a) [])))) h5;rw [e6];have o6:=(o4.same s45).trans o56;have G6:tZ b H6 g prs es:=(G4.same s45).keep t56 (fun o e=>by rw [n6 _ ngx];exact e) fun e he o q=>by rw [n6 _ (fx e he)];exact q
 have V6:tZ b H6 v (prs.map fun e=>(e.2,e.1)) es':=G5.keep t56 (fun o e=>by rw [n6 _ nvx];exact e) fun e he o q=>by rw [n6 _ (fx' e he)];exact q
 clear t hl;have p6:=o6 _ _ npx hp;have w6:bC (jJ b H6) ws prs:=hw.mono fun _ _ z=>z.ts (o6.ts hx)
 exists _,rfl,p,rfl,⟨_,aT.of p6⟩,cC (xs:=ws) (fun i ys σ G=>aN H6 G/\(∃ v1,σ=[v1])/\bC (PrZ b G) ys (prs.take i)) (aH ∅) ⟨aN.refl _,⟨_,rfl⟩,trivial⟩ (by rintro i ys σ G ⟨_,_,t⟩;rw [t.length,bx];omega) (by rintro i ys σ G _ ⟨s,_⟩;exact aT.of (s _ _ p6)) ?_ ?_
 ·rintro i u ys σ G hu ⟨s,⟨v1,rfl⟩,t⟩;obtain ⟨e,hi,q,y,z,rfl,hq,vy,vz⟩:=w6.at hu;exists _,rfl,cT,fun r hr=>⟨s.trans (aA hr _),⟨_,rfl⟩,?_⟩;have tr:=TS.of (aA hr (.tup [.ref q,.int 0]));rw [aO hi];exact bC.append (t.mono fun _ _ w=>w.ts tr) ⟨⟨r,q,rfl,aB,sX (tr _ _ (s _ _ hq)) ((vy.ts (TS.of s)).ts tr) ((vz.ts (TS.of s)).ts tr),vy.va,vz.va⟩,trivial⟩
 rintro ys7 σ7 G7 ⟨s7,_,t7⟩ l7 hl7;rw [lw,be] at t7;have t8:=t7.mono fun _ _ w=>PrZ.ts (TS.of (aA hl7 (.lst ys7))) w
 exists l7,ys7,_,rfl,aB,aP0 t8,by rw [ae];unfold pN;rw [ae];exact aH ∅,fun d G8 hd D8 k8=>?_;rw [lY (f:=iT b) (l:=pN prs fun _=>0) (by rw [bD8];exact nd') (fun e he e' he' q=>lU (aF0 t8 e he) (aF0 t8 e' he') q)] at D8;have l8:PD P w b G8 d (pN prs fun _=>0):=⟨D8,aF0 t8⟩
 have s8:aN H6 G8:=(s7.trans (aA hl7 _)).trans fun e o q=>by rw [k8 e (aF q hd)];exact q
 have d6:H6 d=none:=s7.free ((aA hl7 (.lst ys7)).free hd);have ndx:d≠x:=(aF h6 d6).symm;have d0:H d=none:=by
  cases e:H d with
  |none=>rfl
  |some u=>rw [o6 _ _ ndx e] at d6;cases d6
 have x8:=s8 _ _ h6;exists _,rfl,x,cL,dx,_,rfl,x8,T.cl,T.n5,db (xB (xB (xB (xB (ao 0))))) (by decide),?_;rw [aX6];obtain ⟨H9,e9,o89,h9,t89,n9⟩:=rL (fs':=lyF a c g v d) x8;rw [e9];have o9:=(o6.same s8).trans o89;exact k _ g v d o9 d0 ⟨⟨dx,h9⟩,o9 _ _ nax ha,o9 _ _ nbx hb,l8.keep t89 (fun o q=>by rw [n9 _ ndx];exact q),⟨es,(G6.same s8).keep t89 (fun o e=>by rw [n9 _ ngx];exact e) fun e he o q=>by rw [n9 _ (fx e he)];exact q⟩,⟨es',(V6.same s8).keep t89 (fun o e=>by rw [n9 _ nvx];exact e) fun e he o q=>by rw [n9 _ (fx' e he)];exact q⟩,nab,nag,nav,nbg,nbv,vk,vq⟩
theorem bV5 {b:Bool}{cL:Addr}(T:LyT K cL)  : gX P w K mg base "next_places" "next_places" cD7 1 ["laying","place"] (bP0 P w b cL):=by
 refine jK ["laying","place","answer"] fun H Q nd hr h=>?_
 obtain ⟨x,a,c,g,v,d,t,prs,ks,qs,S,z,rfl,Y,O,⟨u,ht,vu⟩,hq,k⟩:=h;have hu:=fP hr;refine ⟨_,(gF 2 nd (cQ aM (pv 1) aD)
  (aI (cE (iL iR (cQ aM (pv 1) aD) cK) (aG (aP (bJ ["y"] [none] (cH (fR hu (gA (pv 0) rfl) (pv 2) (fF gO) ⟨rfl,rfl,rfl,rfl⟩)) (fun _ _ _ _=>(cW 0)) (fun _ _ _ _=>cN) (fun _ _ _ _=>(aW (aC cK (aS (pv 0)))))))) aU)
  (aG (aP (bJ ["x","laying","answer"] [none,some 0,some 2] (cH (pdg hu (gA (pv 0) rfl) (pv 2))) (fun _ _ _ _=>(cW 0)) (fun _ _ _ _=>(gM (iL lK (aU0 P w hr (xD K (pv 1) rfl) (aW (aC (pv 0) (aS (pv 2))))) aD))) (fun _ _ _ _=>(aW (aC cK (aS (pv 0)))))))))),?_⟩
 obtain ⟨dx,hx⟩:=Y.ob;have la:=vM a c g v d;obtain ⟨s,y⟩:=z;have vu:cV b H u y:=vu;exists _,rfl,t,_,_,_,rfl,rfl,aT.of ht,rfl,?_;exists _,rfl,t,_,_,_,rfl,rfl,aT.of ht,rfl,rfl,_,rfl,?_
 cases s with
 |true =>
  refine dR (by show decide (V.str (kX true)=V.str "one")=true;decide +kernel) ?_;obtain ⟨es,G⟩:=Y.gp;exists _,rfl,x,cL,dx,_,_,rfl,hx,T.cl,T.n3,la.2.2.1,g,rfl,jH G.d,_,rfl,df _,fun z hz=>?_;have tz:=TS.of (aA hz (.lst []));exists _,dY (aA hz _ _ _ G.d) G.va (vu.ts tz),?_;have lp:(dF prs y).length<=200:=by
   unfold dF;rw [ae];exact cy (de _ _) O.zp
  have hr:∃ r us,(bH (gL es) y).getD (.ref z)= .ref r/\aJ H z (.lst []) r=some (.lst us)/\bC (cV b H) us (dF prs y):=by
   by_cases c:y∈es.map (·.1)
   ·obtain ⟨⟨y',r⟩,hr,q⟩:=am.mp c
    cases q
    obtain ⟨us,h1,h2⟩:=G.l _ hr;exact ⟨r,us,by rw [sY G.m hr];rfl,aA hz _ _ _ h1,h2⟩
   ·exact ⟨z,[],by rw [rQ c];rfl,aB,by rw [G.k y c];trivial⟩
  obtain ⟨r,us,er,hr,tus⟩:=hr;have s1:=aA hz (.lst []);generalize aJ H z (.lst [])=H1 at hr s1 tz ⊢;have tu1:=tus.mono fun _ _ w=>cV.ts tz w
  have lu:=tus.length;rw [er];exists r,rfl,⟨_,bK.of hr⟩,cR (xs:=us) (fun i ys σ G=>aN H1 G/\(∃ v,σ=[v])/\bC (PlE b G) ys (((dF prs y).take i).map fun y=>(false,y))) (aH ∅) ⟨aN.refl _,⟨_,rfl⟩,trivial⟩ (by rintro i ys σ G ⟨_,_,t⟩;rw [t.length,ae,bx];omega) (by rintro i ys σ G _ ⟨s,_⟩;exact bK.of (s _ _ hr)) ?_ ?_
  ·rintro i m ys σ G hm ⟨s,⟨v1,rfl⟩,t⟩;obtain ⟨n,hn,vn⟩:=tu1.at hm;exists _,rfl,cT,fun q hq=>⟨s.trans (aA hq _),⟨_,rfl⟩,?_⟩;have tq:=TS.of (aA hq (.tup [.str "other",m]));rw [aO hn,bp];exact bC.append (t.mono fun _ _ w=>w.ts tq) ⟨⟨q,rfl,m,aB,(vn.ts (TS.of s)).ts tq⟩,trivial⟩
  ·rintro ys σ G ⟨s,_,t⟩ l hl;rw [lu,be] at t;exact k _ l ys (s1.trans (s.trans (aA hl _))) (s1.free (s.free hl)) aB (t.mono fun _ _ w=>w.ts (TS.of (aA hl _)))
 |false =>
  refine bW (by show ¬ decide (V.str (kX false)=V.str "one")=true;decide +kernel) ?_;obtain ⟨es,G⟩:=Y.gv;have hq:=hq rfl;rw [tJ] at hq;have c:y∈es.map (·.1):=Classical.byContradiction fun c=>hq (G.k y c)
  obtain ⟨⟨y',r⟩,hr,q⟩:=am.mp c
  cases q
  have dg:=dY G.d G.va vu;rw [sY G.m hr] at dg;obtain ⟨us,hl,tus⟩:=G.l _ hr
  dsimp only at hl tus
  rw [<- tJ] at tus;have lu:=tus.length;have lp:(fV prs y').length<=200:=by
   unfold fV;rw [ae];exact cy (de _ _) O.zp
  exists _,rfl,x,cL,dx,_,_,rfl,hx,T.cl,T.n4,la.2.2.2.1,_,rfl,v,_,rfl,dg,r,rfl,⟨_,bK.of hl⟩,cR (xs:=us) (fun i ys σ G=>aN H G/\(∃ v1,σ=[v1,some (.ref x),some u])/\bC (PlE b G) ys ((((fV prs y').take i).filter fun n=>decide (0 < S.l (n,y'))).map fun n=>(true,n))) (aH ∅) ⟨aN.refl _,⟨_,rfl⟩,trivial⟩ (by rintro i ys σ G ⟨_,_,t⟩;rw [t.length,ae];exact cy (de _ _) (by rw [bx];omega)) (by rintro i ys σ G _ ⟨s,_⟩;exact bK.of (s _ _ hl)) ?_ ?_
  ·rintro i m ys σ G hm ⟨s,⟨v1,rfl⟩,t⟩;obtain ⟨n,hn,vn⟩:=tus.at hm;have mn:(n,y')∈prs:=aT6 (bq hn);have ts:=TS.of s;exists _,rfl,x,cL,dx,_,_,rfl,s _ _ hx,T.cl,T.n5,la.2.2.2.2,_,rfl,_,rfl,cT,fun q hq=>?_;have sq:=aA hq (.tup [m,u]);have tq:=TS.of sq;have dl:=(Y.l.keep (ts.trans tq) (fun o e=>sq _ _ (s _ _ e))).get (e:=(n,y')) (sF hq) ((vn.ts ts).ts tq) ((vu.ts ts).ts tq);rw [mH mn] at dl;exists d,_,rfl,dl,_,_,rfl,rfl,_,rfl,?_;have s2:=s.trans sq;have t2:=t.mono fun _ _ w=>PlE.ts tq w
   have vn2:=(vn.ts ts).ts tq;generalize aJ G q (.tup [m,u])=G2 at s2 t2 vn2 ⊢;rw [aO hn,fk,bp]
   by_cases c0:0 < S.l (n,y')
   ·refine dR (by simpa using c0) ⟨_,rfl,cT,fun q hq=>⟨s2.trans (aA hq _),⟨_,rfl⟩,?_⟩⟩;rw [fb (by simpa using c0)];have tq:=TS.of (aA hq (.tup [.str "one",m]));exact bC.append (t2.mono fun _ _ w=>w.ts tq) ⟨⟨q,rfl,m,aB,vn2.ts tq⟩,trivial⟩
   ·refine bW (by simpa using c0) ⟨s2,⟨_,rfl⟩,?_⟩;rw [dz (by simpa using c0)];rw [eu,jf,fw];exact t2
  ·rintro ys σ G ⟨s,_,t⟩ l hl;rw [lu,be] at t;exact k _ l ys (s.trans (aA hl _)) (s.free hl) aB (t.mono fun _ _ w=>w.ts (TS.of (aA hl _)))
theorem bW8 {b:Bool}{cL:Addr}(T:LyT K cL)  : gX P w K mg base "has_room" "has_room" cF1 1 ["laying","place"] (bN9 P w b cL):=by
 refine jK ["laying","place"] fun H Q nd hr h=>?_
 obtain ⟨x,a,c,g,v,d,t,prs,ks,qs,S,z,rfl,Y,⟨u,ht,vu⟩,hq,k⟩:=h;have hu:=fP hr;exists _,(aG (aP (aI4 (pec iR (cQ aM (pv 1) aD) cK) (aE3 (pec lK (pdg hu (gA (pv 0) rfl) (cQ aM (pv 1) aD)) aD))))),?_;obtain ⟨dx,hx⟩:=Y.ob;have la:=vM a c g v d;obtain ⟨s,y⟩:=z;exists _,rfl,t,_,_,_,rfl,rfl,aT.of ht,rfl,?_;exists rfl,_,rfl,?_
 cases s with
 |true=>exact bW (by show ¬ decide (V.str (kX true)=V.str "other")=true;decide +kernel) k
 |false =>
  refine dR (by show decide (V.str (kX false)=V.str "other")=true;decide +kernel) ?_;have dg:=dY Y.p (iA Y.vq) vu;rw [show bH (dJ qs S.p) (false,y).2=_ from iK (hq rfl)] at dg;exact ⟨_,rfl,x,cL,dx,_,_,rfl,hx,T.cl,T.n2,la.2.1,_,rfl,t,_,_,_,rfl,rfl,aT.of ht,rfl,c,_,rfl,dg,_,_,rfl,rfl,k⟩
theorem bR4 {b:Bool}  : gX P w K mg base "answers_back" "answers_back" cE5 1 ["ahead","place"] (bC3 P w b):=by
 refine jK ["ahead","place","answers"] fun H Q nd hr h=>?_
 obtain ⟨d,u,ah,z,r,rfl,⟨kvs,hd,hk⟩,hu0,tr,hz,k⟩:=h;refine ⟨_,(gF 2 nd (fF gO)
  (aI (jV km (lL (aK4 (pv 1)))
  (aI (hX (qL gc jh ji iG (pv 2) (aS (cQ aM (pv 1) aD))))
  (aG (psz 1 nd (aU0 P w hr (pv 0) (pv 1))))))
  (aG (aP (pv 2))))),?_⟩
 exists df _,fun l hl=>?_;exists fun j σ G=>∃ (dn rest:List (Pl An)) (pv:V) (us:List V),σ=[some (.ref d),some pv,some (.ref l)]/\j=rest.length/\dn++rest=z :: r/\(rest=[]\/Tr ah rest)/\RV b G rest pv/\aN H G/\G l=some (.lst us)/\bC (cV b G) us (dn.map (·.2)),⟨_,[],z :: r,u,[],rfl,rfl,rfl,.inr tr,hu0.ts (TS.of (aA hl _)),aA hl _,aB,trivial⟩,?_;rintro j σ G ⟨dn,rest,pv,us,rfl,rfl,e,ht,rv,s,gl,tu⟩
 cases rest with
 |nil =>
  cases (show pv= .non from rv)
  exists _,rfl,_,rfl,bW (by decide) ?_;rw [fw] at e;rw [e] at tu;exact ⟨_,rfl,k G l us s hl gl tu⟩
 |cons c rest =>
  obtain ⟨t,rfl,x,pt,vx⟩:=rv;have tr:=ht.resolve_left (by intro q;cases q);obtain ⟨lk,tr2⟩:=tr.next;have le:dn.length<=200:=by
   have:=ed List.length e;rw [cq] at this;omega
  have lu:us.length<=200:=by rw [tu.length,ae];exact le
  exists _,rfl,_,rfl,dR (by rfl) ⟨fun σ' H'=>∃ pv us,σ'=[some (.ref d),some pv,some (.ref l)]/\RV b H' rest pv/\aN H H'/\H' l=some (.lst us)/\bC (cV b H') us ((dn++[c]).map (·.2)),(by rintro σ' H' ⟨pv,us,e1,e2,e3,e4,e5⟩;exact ⟨rest.length,dy _,dn++[c],rest,pv,us,e1,rfl,by rw [xw];exact e,tr2,e2,e3,e4,e5⟩),?_⟩;exists _,rfl,.inl ⟨rfl,_,bK.of gl⟩,_,rfl,t,_,_,_,rfl,rfl,aT.of pt,rfl,l,_,_,rfl,rfl,gl,aH ∅,?_;have s1:aN H (aJ G l (.lst (us++[x]))):=aZ7 s hl;have t1:TS G (aJ G l (.lst (us++[x]))):=TS.lst gl;have l1:aJ G l (.lst (us++[x])) l=some (.lst (us++[x])):=aB;generalize aJ G l (.lst (us++[x]))=G1 at s1 l1 t1 ⊢;obtain ⟨v,hv,av⟩:=(hk.look (z:=c)).2 _ lk;have dg:=(hd.keep (TS.of s1) (fun _ e=>s1 _ _ e)).get (z:=c) ⟨x,t1 _ _ pt,vx.ts t1⟩;rw [hv] at dg;exists _,rfl,_,rfl,d,v,rfl,dg,v,_,rfl,av.ts (TS.of s1),s1,l1,?_;rw [bp];exact bC.append (tu.mono fun _ _ w=>w.ts t1) ⟨vx.ts t1,trivial⟩
theorem bU4 {b:Bool}{cL:Addr}(T:LyT K cL)  (C_Nxt:Cl P w K mg base 1 (bP0 P w b cL) "next_places") (C_Has:Cl P w K mg base 1 (bN9 P w b cL) "has_room") (m_dict:mg "dict"=none) (m_len:mg "len"=none):gX P w K mg base "searched" "searched" cG3 2 ["laying"] (bO8 P w b cL):=by
 refine jK ["laying","queue","ahead","done","place"] fun H Q nd hr h=>?_
 obtain ⟨x,a,c,g,v,d,prs,ks,qs,S,rfl,Y,O,k⟩:=h;have hu:=fP hr;refine ⟨_,(aI (nP (iB ["x","laying"] [none,some 0] (i:=1) nd rfl (jg rfl) (aZ1 (bF8 (gA (pv 0) rfl)) (aT0 (gA (pv 0) rfl))) (fun _ _ _ _=>(cW 0)) (fun _ _ _ _=>(gM (iL lK (pdg hu (xD K (pv 1) rfl) (pv 0)) aD))) (fun _ _ _ _=>(aW (aC cK (aS (pv 0)))))))
  (gF 2 nd (vH (kJ hr) m_dict fi (aS (bJ ["place"] [none] (cH (pv 1)) (fun _ _ _ _=>(cW 0)) (fun _ _ _ _=>cN) (fun _ _ _ _=>(aW (aC (pv 0) (aS aU4)))))))
  (gF 3 nd aD
  (aI (jV km (iL mW (pv 3) (pP cD m_len jb (aS (pv 1))))
  (aI (wK (cH (cP C_Nxt hr (aC (pv 0) (aS (cQ dU (pv 1) (pv 3)))))) (cW 4 nd)
  (aG (cE (lL (cF5 P w hr (pv 4) (pv 2))) (aI (cI4 P w hr (pv 2) (pv 4) (cQ dU (pv 1) (pv 3)))
  (aI (cE (fZ (cP C_Has hr (aC (pv 0) (aS (pv 4))))) (aG (aP (aW (aC (pv 2) (aS (pv 4)))))) aU)
  (aG (hX (qL gc jh ji iG (pv 1) (aS (pv 4))))))) aU)))
  (aG (bR6 (i:=3) nd rfl (jg rfl) aD aT2))))
  (aG (aP (aW (aC (pv 2) (aS aU4))))))))),?_⟩
 obtain ⟨dx,hx⟩:=Y.ob;have la:=vM a c g v d;refine bJ9 (b:=b) (d:=a) (l:=dJ ks S.o) (fun Q q=>⟨_,rfl,x,cL,dx,_,_,rfl,hx,T.cl,T.n1,la.1,q⟩) Y.o fun o=>?_
 have ax:=(bN hx Y.o lT).symm;have f0:aJ H a (.frz o (dB b (dJ ks S.o))) a=some (.frz o (dB b (dJ ks S.o))):=aB;have x0:aJ H a (.frz o (dB b (dJ ks S.o))) x=some (.ins cL dx (lyF a c g v d)):=by rw [aE ax.symm];exact hx
 have zk:=O.zk;have lk:(dJ ks S.o).length=ks.length:=ae ..;refine bV8 (iA Y.vk) (fun i ys σ G=>aN (aJ H a (.frz o (dB b (dJ ks S.o)))) G/\(∃ v1,σ=[v1,some (.ref x)])/\bC (PlE b G) ys (((ks.take i).filter fun n=>decide (0 < S.o n)).map fun n=>(true,n))) (by rw [lk];exact aH ∅) ⟨aN.refl _,⟨_,rfl⟩,trivial⟩ (by rintro i ys σ G ⟨_,_,t⟩;rw [t.length,ae];exact cy (de _ _) (by rw [bx];omega)) (by rintro i ys σ G _ ⟨s,_⟩;exact s _ _ f0) ?_ ?_
 ·rintro i n w xv ys σ G hu vn ⟨s,⟨v1,rfl⟩,t⟩;have hn:ks[i]?=some n/\w= .int (S.o n):=by
   unfold dJ at hu;rw [cp] at hu
   cases e:ks[i]? with
   |none=>rw [e] at hu;cases hu
   |some m=>rw [e] at hu;cases hu;exact ⟨rfl,rfl⟩
  obtain ⟨hn,rfl⟩:=hn;have dg:=bH2 (s _ _ f0) (iA Y.vk) vn;rw [iK (bq hn)] at dg;exists _,rfl,x,cL,dx,_,_,rfl,s _ _ x0,T.cl,T.n1,la.1,_,rfl,a,_,rfl,dg,_,_,rfl,rfl,_,rfl,?_;rw [aO hn,fk,bp]
  by_cases c0:0 < S.o n
  ·refine dR (by simpa using c0) ⟨_,rfl,cT,fun q hq=>⟨s.trans (aA hq _),⟨_,rfl⟩,?_⟩⟩;rw [fb (by simpa using c0)];have tq:=TS.of (aA hq (.tup [.str "one",xv]));exact bC.append (t.mono fun _ _ w=>w.ts tq) ⟨⟨q,rfl,xv,aB,vn.ts tq⟩,trivial⟩
  ·refine bW (by simpa using c0) ⟨s,⟨_,rfl⟩,?_⟩;rw [dz (by simpa using c0),eu,jf,fw];exact t
 rintro ys σ G ⟨s,_,t⟩ l hl;rw [lk,be] at t;have ga:aJ G l (.lst ys) a=some (.frz o (dB b (dJ ks S.o))):=aA hl _ _ _ (s _ _ f0);refine .inr ⟨a,o,_,ga,(fun o' u' z=>bT9 (dm (z.symm.trans Y.o))),(fun _ z=>lH z.symm),(fun _ z=>bX9 z.symm),?_⟩;have s1:=aR1 (w:= .lst ys) Y.o s hl;have la':=aF (s _ _ f0) hl;have l1:aJ (aJ G l (.lst ys)) a (dB b (dJ ks S.o)) l=some (.lst ys):=by rw [aE la'.symm];exact aB
 have hl0:H l=none:=by
  have:=s.free hl;rw [aE la'.symm] at this;exact this
 have tg:TS G (aJ (aJ G l (.lst ys)) a (dB b (dJ ks S.o))):=fun e xs q=>by
  rw [aE (bN q (s _ _ f0) (by intro z;cases z)),aE (aF q hl)];exact q
 have t1:bC (PlE b (aJ (aJ G l (.lst ys)) a (dB b (dJ ks S.o)))) ys ((ks.filter fun n=>decide (0 < S.o n)).map fun n=>(true,n)):=t.mono fun _ _ w=>w.ts tg
 clear t s ga tg;generalize aJ (aJ G l (.lst ys)) a (dB b (dJ ks S.o))=H1 at s1 l1 t1 ⊢;generalize ez:(ks.filter fun n=>decide (0 < S.o n)).map (fun n=>((true,n):Pl An))=zs at t1;have lz:zs.length<=50:=by
  rw [<- ez,ae];exact cy (de _ _) zk
 have ly:=t1.length;have nz:zs.Nodup:=by
  have w:=(xI (prs:=prs) (S:=S) O.nk).1.nodup;rw [(xI (prs:=prs) (S:=S) O.nk).2,ez] at w;exact w
 have vz:∀ z∈zs,VA b z.2:=fun z hz=>by
  rw [<- ez] at hz;obtain ⟨n,hn,rfl⟩:=am.mp hz;exact Y.vk n (br.mp hn).1
 exists _,rfl,l,rfl,⟨_,bK.of l1⟩,cR (xs:=ys) (fun i us σ G=>aN H1 G/\(∃ v,σ=[v])/\bC (PlN b G) us (zs.take i)) (aH ∅) ⟨aN.refl _,⟨_,rfl⟩,trivial⟩ (by rintro i us σ G ⟨_,_,t⟩;rw [t.length,bx];omega) (by rintro i us σ G _ ⟨s,_⟩;exact bK.of (s _ _ l1)) ?_ ?_
 ·rintro i u us σ G hu ⟨s,⟨v1,rfl⟩,t⟩;obtain ⟨z,hz,tt,rfl,pt⟩:=t1.at hu;exists _,rfl,cT,fun q hq=>⟨s.trans (aA hq _),⟨_,rfl⟩,?_⟩;have tq:=TS.of (aA hq (.tup [.ref tt,.non]));rw [aO hz];exact bC.append (t.mono fun _ _ w=>w.ts tq) ⟨⟨q,tt,rfl,aB,(pt.ts (TS.of s)).ts tq⟩,trivial⟩
 rintro us σ2 G2 ⟨s2,_,t2⟩ l2 hl2;rw [ly,be] at t2;have t3:=t2.mono fun _ _ w=>PlN.ts (TS.of (aA hl2 (.lst us))) w
 exists l2,us,_,rfl,aB,aO9 t3,by rw [ae];unfold xO;rw [ae];exact aH ∅,fun dA H3 hdA D3 k3=>?_;have vn:∀ e∈xO zs,VA b e.1.2:=fun e he=>by
  obtain ⟨z,hz,rfl⟩:=am.mp he;exact vz z hz
 rw [lY (f:=sT b) (l:=xO zs) (by unfold xO;rw [cz];exact (wv _).symm ▸ nz) (fun e he e' he' q=>uP (vn e he) (vn e' he') q)] at D3;have s3:aN H1 H3:=(s2.trans (aA hl2 _)).trans fun e o q=>by rw [k3 e (aF q hdA)];exact q
 have d1:H1 dA=none:=s2.free ((aA hl2 (.lst us)).free hdA);have hd0:=s1.free d1;have e0:zs.map (fun z=>(z,(none:Option (Pl An))))=nY ks S:=by rw [<- ez,cz];rfl
 obtain ⟨w0,k0⟩:=xI (prs:=prs) (S:=S) O.nk;have Q0:SrQ P w b H H3 l dA prs ks S (nY ks S):=⟨s1.trans s3,⟨ys,s3 _ _ l1,by rw [k0,ez];exact t1.mono fun _ _ w=>w.ts (TS.of s3)⟩,⟨xO zs,⟨D3,vn⟩,by rw [<- e0];exact bE5 b H3 zs⟩,w0⟩
 clear t1 t2 t3 s2 s3 D3 k3 l1 e0;generalize eN:(fM ks qs).length+1=N at k;exists fun j σ G=>∃ (dn:Nat) (ah:Ah An) (v4:Option V),σ=[some (.ref x),some (.ref l),some (.ref dA),some (.int dn),v4]/\j=N - dn/\SrQ P w b H G l dA prs ks S ah/\cZ prs S N 0 (nY ks S)=cZ prs S (N - dn) dn ah,⟨_,0,nY ks S,none,rfl,rfl,Q0,rfl⟩,?_;rintro j σ G ⟨dn,ah,v4,rfl,rfl,R,e⟩;obtain ⟨us',gl,tq⟩:=R.q;have lq:=tq.length;have lN:=iM R.w.nodup (R.w.sub O.pr);exists _,rfl,_,rfl,l,us',rfl,.inl (bK.of gl),_,_,rfl,rfl,_,rfl,?_
 by_cases c0:dn < us'.length
 ·refine dR (by simpa using c0) ⟨fun σ' H'=>∃ ah' v4,σ'=[some (.ref x),some (.ref l),some (.ref dA),some (.int ((dn+1:Nat):Int)),v4]/\SrQ P w b H H' l dA prs ks S ah'/\cZ prs S N 0 (nY ks S)=cZ prs S (N - (dn+1)) (dn+1) ah',(by rintro σ' H' ⟨ah',v4,e1,e2,e3⟩;exact ⟨N - (dn+1),∅,dn+1,ah',v4,e1,rfl,e2,e3⟩),?_⟩;have hN:N - dn=N - (dn+1)+1:=∅
  obtain ⟨cur,hc,tt,et,pt⟩:=tq.at (ak c0);rw [hN] at e;have gat:yJ us' (dn:Int)=some (.ref tt):=jB (by rw [ak c0,et]);exists _,rfl,_,rfl,_,rfl,l,_,_,_,rfl,rfl,bK.of gl,gat,x,a,c,g,v,d,tt,prs,ks,qs,S,cur,rfl,Y.same R.s,O,pt,bE9 R.w _ (bq hc),fun G1 ln ws s4 hln gln tw=>?_;have R1:=R.same s4;have nl:=aF gl hln;exists ln,rfl,⟨_,bK.of gln⟩,gW (xs:=ws) (fun i σ G'=>∃ ah' v4,σ=[some (.ref x),some (.ref l),some (.ref dA),some (.int (dn:Int)),v4]/\SrQ P w b H G' l dA prs ks S ah'/\G' ln=some (.lst ws)/\bC (PlE b G') ws (dZ prs S cur)/\(aV ah')[dn]?=some cur/\gZ S cur ((dZ prs S cur).drop i) ah'=gZ S cur (dZ prs S cur) ah) ⟨ah,v4,rfl,R1,gln,tw,hc,rfl⟩ (by rintro i σ G' _ ⟨_,_,_,_,q,_⟩;exact bK.of q) ?_ ?_
  ·rintro i u σ G' hu ⟨ah',v4,rfl,R',gln',tw',hc',es⟩;obtain ⟨z,hz,t',rfl,pt'⟩:=tw'.at hu;obtain ⟨kvs,hk,hkk⟩:=R'.k;obtain ⟨us2,gl2,tq2⟩:=R'.q;have mz:=bq hz;have li:=(bw.mp hz).1;have dr:(dZ prs S cur).drop i=z :: (dZ prs S cur).drop (i+1):=by
    rw [oz li,(bw.mp hz).2]
   rw [dr] at es;exists _,rfl,_,rfl,dA,_,rfl,hk.get pt',_,rfl,?_
   by_cases m:z∈aV ah'
   ·have hv:(bH kvs z).isSome=true:=by
     cases q:eL ah' z with
     |none=>exact absurd m (jO.mpr q)
     |some o =>
      obtain ⟨w,hw,_⟩:=(hkk.look (z:=z)).2 _ q;rw [hw];rfl
    rw [hv];rw [aY8 m] at es;exact bW (by decide) ⟨ah',_,rfl,R',gln',tw',hc',es⟩
   ·have hv:bH kvs z=none:=(hkk.look (z:=z)).1 (jO.mp m);rw [hv];have lA:=iM R'.w.nodup (R'.w.sub O.pr);have lB:(fM ks qs).length<=100:=by
     unfold fM;rw [cq,ae,ae];have:=O.zk;have:=O.zq;omega
    have lC:(aV ah').length=kvs.length:=by rw [hkk.len];unfold aV;rw [ae]
    have l2:=tq2.length;have ld:=(bw.mp hc').1;obtain ⟨cur',hc2,tc,etc,iL⟩:=tq2.at (ak (show dn < us2.length by omega))
    cases dm (hc'.symm.trans hc2)
    have gat2:yJ us2 (dn:Int)=some (.ref tc):=jB (by rw [ak (show dn < us2.length by omega),etc]);obtain ⟨φ,hxt⟩:=hk.ext;refine dR (by decide) ?_;exists _,rfl,_,rfl,l,_,_,_,rfl,rfl,bK.of gl2,gat2,_,rfl,_,rfl,dA,rfl,aR0 hk hkk m pt' ⟨tc,rfl,iL⟩ (aH ∅) fun G5 o5 ts5 A2=>?_;have s5:aN H G5:=fun e u q=>by rw [o5 e (aF q hd0)];exact R'.s _ _ q
    have gl5:G5 l=some (.lst us2):=by rw [o5 _ (bN gl2 hxt (by intro q;cases q))];exact gl2
    have gn5:G5 ln=some (.lst ws):=by rw [o5 _ (bN gln' hxt (by intro q;cases q))];exact gln'
    have w5:Wf prs S ks (ah'++[(z,some cur)]):= .step R'.w m (bq hc') mz;exists _,rfl,_,rfl,x,a,c,g,v,d,t',prs,ks,qs,S,z,rfl,Y.same s5,pt'.ts ts5,aR2 O.pr mz,_,rfl,?_
    cases rm:kR S z with
    |true =>
     refine dR rfl ?_;rw [bD9 m rm] at es;have ee:=e.trans (aW2 hc es.symm);rw [ee] at k;exists _,rfl,_,rfl,cT,fun r hr=>?_;have sr:=aA hr (.tup [.ref dA,.ref t']);exact k _ r dA (.ref t') (s5.trans sr) aB (A2.same sr) ⟨t',rfl,(pt'.ts ts5).ts (TS.of sr)⟩
    |false =>
     refine bW (by decide) ?_;rw [bI2 m rm] at es;exists _,rfl,.inl ⟨rfl,_,bK.of gl5⟩,_,rfl,l,_,_,rfl,rfl,gl5,aH ∅,?_;have ts6:TS G5 (aJ G5 l (.lst (us2++[.ref t']))):=TS.lst gl5;obtain ⟨kv2,h51,h52⟩:=A2;obtain ⟨φ2,hx5⟩:=h51.ext;have nla:dA≠l:=bN hx5 gl5 (by intro q;cases q);exists ah'++[(z,some cur)],_,rfl,⟨iO s5 hl0,⟨_,aB,?_⟩,⟨kv2,h51.keep ts6 (fun o q=>by rw [aE nla];exact q),h52.ts ts6⟩,w5⟩,by rw [aE nl.symm];exact gn5,tw'.mono fun _ _ w=>(w.ts ts5).ts ts6,?_,es
     ·rw [cI];exact bC.append (tq2.mono fun _ _ w=>(w.ts ts5).ts ts6) ⟨⟨t',rfl,(pt'.ts ts5).ts ts6⟩,trivial⟩
     ·rw [cI,ow ld];exact hc'
  ·rintro σ G' ⟨ah',v4,rfl,R',gln',tw',hc',es⟩;rw [tw.length,List.drop_length] at es;exact ⟨_,rfl,_,_,rfl,rfl,ah',v4,rfl,R',e.trans (bJ2 hc es.symm)⟩
 ·refine bW (by simpa using c0) ?_;have ee:=e.trans (aQ3 (show (aV ah).length<=dn by omega));rw [ee] at k;exists _,rfl,cT,fun r hr=>?_;have R2:=R.same (aA hr (.tup [.ref dA,.non]));exact k _ r dA .non R2.s aB R2.k rfl
theorem bQ9 {b:Bool}{cL:Addr}(T:LyT K cL)  (m_min:mg "min"=none) (m_range:mg "range"=none) (m_len:mg "len"=none):gX P w K mg base "lay_along" "lay_along" cH6 1 ["laying","answers"] (aJ0 P w b cL):=by
 refine jK ["laying","answers","there","back","left","amount","pair"] fun H Q nd hr h=>?_
 obtain ⟨x,a,c,g,v,d,q,us,prs,ks,qs,as,S,y,wz,rfl,Y,O,hq,tus,⟨ah,al,ev,lz,mt,mb,yq,wk⟩,k⟩:=h;have hu:=fP hr;refine ⟨_,(aI (iB ["k","answers"] [none,some 1] (i:=2) nd rfl (jg rfl) (vR (by rfl) m_range (aC aD (aC (pP cD m_len jb (aS (pv 1))) (aS aD)))) (fun _ _ _ _=>(cW 0)) (fun _ _ _ _=>cN) (fun _ _ _ _=>(aW (aC (cQ (bM2 K) (pv 1) (aR fH (pv 0) aD)) (aS (cQ (bM2 K) (pv 1) (pv 0)))))))
  (aI (iB ["k","answers"] [none,some 1] (i:=3) nd rfl (jg rfl) (vR (by rfl) m_range (aC aD (aC (aR pF (pP cD m_len jb (aS (pv 1))) aD) (aS aD)))) (fun _ _ _ _=>(cW 0)) (fun _ _ _ _=>cN) (fun _ _ _ _=>(aW (aC (cQ (bM2 K) (pv 1) (pv 0)) (aS (cQ (bM2 K) (pv 1) (aR fH (pv 0) aD)))))))
  (gF 4 nd (fF (aC (pdg hu (gA (pv 0) rfl) (cQ dU (pv 1) bM5)) (aS (pdg hu (gA (pv 0) rfl) (cQ dU (pv 1) aD)))))
  (gF 5 nd (pP aE9 m_min aAm (aS (aR xG (pv 4) (bJ ["pair","laying"] [none,some 0] (cH (pv 3)) (fun _ _ _ _=>(cW 0)) (fun _ _ _ _=>cN) (fun _ _ _ _=>(aU0 P w hr (xD K (pv 1) rfl) (pv 0)))))))
  (aI (wK (cH (pv 2)) (cW 6 nd)
  (aG (cC3 P w hr (gA (pv 0) rfl) (pv 6) (pv 5) aT2)))
  (aI (wK (cH (pv 3)) (cW 6 nd)
  (aG (cC3 P w hr (gA (pv 0) rfl) (pv 6) (pv 5) aI3)))
  (aI (aL7 hu (gA (pv 0) rfl) (cQ dU (pv 1) bM5) (pv 5) aI3 (fun _ _ _=>rfl))
  (aG (aL7 hu (gA (pv 0) rfl) (cQ dU (pv 1) aD) (pv 5) aI3 (fun _ _ _=>rfl)))))))))),?_⟩
 obtain ⟨dx,hx⟩:=Y.ob;have la:=vM a c g v d;have lw:=tus.length;have tl:=wO as;have bl:=aB6 as;exists _,rfl,q,_,rfl,.inl (bK.of hq),_,_,rfl,by decide,by decide,∅,∅,qQ (lo:=0) (n:=mO 0 (us.length:Int)) (fun i ys σ G=>aN H G/\(∃ v,σ=[v,some (.ref q)])/\bC (jJ b G) ys ((bY as).take i)) (aH (by unfold mO;omega)) ⟨aN.refl _,⟨_,rfl⟩,trivial⟩ (by rintro i ys σ G ⟨_,_,t⟩;rw [t.length,bx];omega) ?_ ?_
 ·rintro i ys σ G hi ⟨s,⟨v1,rfl⟩,t⟩;have li:i < (bY as).length:=by unfold mO at hi;omega
  have he:=ak li;obtain ⟨e1,e2⟩:=zS he;obtain ⟨u1,hu1,r1⟩:=cY tus e1;obtain ⟨u2,hu2,r2⟩:=cY tus e2;exists _,rfl,_,rfl,_,_,rfl,rfl,q,_,_,_,rfl,rfl,bK.of (s _ _ hq),xR (n:=2 * i+1) ∅ hu1,_,rfl,_,rfl,q,_,_,_,rfl,rfl,bK.of (s _ _ hq),xR (n:=2 * i) ∅ hu2,cT,fun r hr=>⟨s.trans (aA hr _),⟨_,rfl⟩,?_⟩;have tr:=TS.of (aA hr (.tup [u1,u2]));rw [aO he];exact bC.append (t.mono fun _ _ w=>w.ts tr) ⟨⟨r,u1,u2,rfl,aB,(r1.ts (TS.of s)).ts tr,(r2.ts (TS.of s)).ts tr⟩,trivial⟩
 rintro tws σ G ⟨s,_,t⟩ th hth;have nt:mO 0 (us.length:Int)=(bY as).length:=by unfold mO;omega
 rw [nt,be] at t;have s1:=s.trans (aA hth (.lst tws));have t1:=t.mono fun _ _ w=>jJ.ts (TS.of (aA hth (.lst tws))) w
 have h1:aJ G th (.lst tws) th=some (.lst tws):=aB;generalize aJ G th (.lst tws)=H1 at s1 t1 h1 ⊢;clear t s hth;exists _,rfl,q,_,rfl,.inl (bK.of (s1 _ _ hq)),_,_,rfl,rfl,_,_,rfl,by decide,by decide,∅,∅,qQ (lo:=1) (n:=mO 1 ((us.length:Int) - 1)) (fun i ys σ G=>aN H1 G/\(∃ v,σ=[v,some (.ref q)])/\bC (jJ b G) ys ((bS as).take i)) (aH (by unfold mO;omega)) ⟨aN.refl _,⟨_,rfl⟩,trivial⟩ (by rintro i ys σ G ⟨_,_,t⟩;rw [t.length,bx];omega) ?_ ?_
 ·rintro i ys σ G hi ⟨s,⟨v1,rfl⟩,t⟩;have li:i < (bS as).length:=by unfold mO at hi;omega
  have he:=ak li;obtain ⟨e1,e2⟩:=aK8 he;obtain ⟨u1,hu1,r1⟩:=cY tus e1;obtain ⟨u2,hu2,r2⟩:=cY tus e2;have sH:=s1.trans s;have hq2:=sH _ _ hq;exists _,rfl,_,rfl,q,_,_,_,rfl,rfl,bK.of hq2,xR (n:=2 * i+1) ∅ hu1,_,rfl,_,rfl,_,_,rfl,rfl,q,_,_,_,rfl,rfl,bK.of hq2,xR (n:=2 * i+2) ∅ hu2,cT,fun r hr=>⟨s.trans (aA hr _),⟨_,rfl⟩,?_⟩;have tr:=TS.of (aA hr (.tup [u1,u2]));rw [aO he];exact bC.append (t.mono fun _ _ w=>w.ts tr) ⟨⟨r,u1,u2,rfl,aB,(r1.ts (TS.of sH)).ts tr,(r2.ts (TS.of sH)).ts tr⟩,trivial⟩
 rintro bws σ G ⟨s,_,t⟩ bk hbk;have nb:mO 1 ((us.length:Int) - 1)=(bS as).length:=by unfold mO;omega
 rw [nb,be] at t;have sb:=s.trans (aA hbk (.lst bws));have s2:=s1.trans sb;have t2:=t.mono fun _ _ w=>jJ.ts (TS.of (aA hbk (.lst bws))) w
 have h2:aJ G bk (.lst bws) bk=some (.lst bws):=aB;have t3:=t1.mono fun _ _ w=>jJ.ts (TS.of sb) w
 have h3:=sb _ _ h1;generalize aJ G bk (.lst bws)=H2 at s2 t2 h2 t3 h3 ⊢;clear t s hbk t1 h1 sb;have Y2:=Y.same s2;have hq2:=s2 _ _ hq;have x2:=s2 _ _ hx;obtain ⟨vw,aw,rw'⟩:=aQ2 tus al;obtain ⟨vy,ay,ry⟩:=aU7 tus ah;have dgo:=dY Y2.o (iA Y2.vk) (rw'.ts (TS.of s2));rw [iK wk] at dgo;have dgp:=dY Y2.p (iA Y2.vq) (ry.ts (TS.of s2));rw [iK yq] at dgp;exists _,rfl,x,cL,dx,_,_,rfl,x2,T.cl,T.n1,la.1,_,rfl,q,_,_,_,rfl,rfl,bK.of hq2,aw,a,_,rfl,dgo,_,rfl,x,cL,dx,_,_,rfl,x2,T.cl,T.n2,la.2.1,_,rfl,q,_,_,_,rfl,rfl,bK.of hq2,ay,c,_,rfl,dgp,cT,fun lf hlf=>?_;have sl:=aA hlf (.lst [.int (S.o wz),.int (S.p y)]);have s3:=s2.trans sl;have t4:=t2.mono fun _ _ w=>jJ.ts (TS.of sl) w
 have t5:=t3.mono fun _ _ w=>jJ.ts (TS.of sl) w
 have h4:=sl _ _ h2;have h5:=sl _ _ h3;have h6:aJ H2 lf (.lst [.int (S.o wz),.int (S.p y)]) lf=some (.lst [.int (S.o wz),.int (S.p y)]):=aB;generalize aJ H2 lf (.lst [.int (S.o wz),.int (S.p y)])=H3 at s3 t4 t5 h4 h5 h6 ⊢;clear t2 t3 h2 h3 hlf Y2 hq2 x2 dgo dgp sl;have lb:=t4.length;exists _,rfl,_,rfl,bk,rfl,⟨_,bK.of h4⟩,cR (xs:=bws) (fun i ys σ G=>H3=G/\(∃ v,σ=[v,some (.ref x)])/\ys=(((bS as).take i).map S.l).map V.int) (aH ∅) ⟨rfl,⟨_,rfl⟩,rfl⟩ (by rintro i ys σ G ⟨_,_,t⟩;rw [t,ae,ae,bx];omega) (by rintro i ys σ G _ ⟨e,_⟩;rw [<- e];exact bK.of h4) ?_ ?_
 ·rintro i u ys σ G hu ⟨rfl,⟨v1,rfl⟩,rfl⟩;obtain ⟨e,hi,cc,u1,u2,rfl,hc,v1',v2'⟩:=t4.at hu;have dl:=(Y.same s3).l.get hc v1' v2';rw [show bH (pN prs S.l) (e.1,e.2)=some (.int (S.l e)) from mH (mb _ (bq hi))] at dl;exists _,rfl,x,cL,dx,_,_,rfl,s3 _ _ hx,T.cl,T.n5,la.2.2.2.2,_,rfl,d,_,rfl,dl,rfl,⟨_,rfl⟩,?_;rw [aO hi,bp,bp];rfl
 rintro ys σ G ⟨rfl,_,rfl⟩ l hl;rw [lb,be];exists lf,l,_,_,rfl,rfl,aA hl _ _ _ h6,aB,(by simp only [List.length_map,List.length_cons,List.length_nil];exact iz (aH ∅)),fun p hp=>⟨p,S.o wz :: S.p y :: (bS as).map S.l,rfl,bK.of aB,(by intro z;cases z),fun m m1 m2=>?_⟩
 cases bV6 m1 m2
 clear m1 m2;generalize em:jU S as y wz=m;have s4:aN H3 (aJ (aJ H3 l (.lst (((bS as).map S.l).map V.int))) p (.lst ([.int (S.o wz),.int (S.p y)]++((bS as).map S.l).map V.int))):=(aA hl _).trans (aA hp _);generalize aJ (aJ H3 l (.lst (((bS as).map S.l).map V.int))) p (.lst ([.int (S.o wz),.int (S.p y)]++((bS as).map S.l).map V.int))=H4 at s4 ⊢;have s5:=s3.trans s4;have t6:=t4.mono fun _ _ w=>jJ.ts (TS.of s4) w
 have t7:=t5.mono fun _ _ w=>jJ.ts (TS.of s4) w
 have h7:=s4 _ _ h4;have h8:=s4 _ _ h5;clear t4 t5 h4 h5 h6 hl hp s4 s3;have Y4:=Y.same s5;have hq4:=s5 _ _ hq;have x4:=s5 _ _ hx;have ku:∀ {L:Pr2->Int}{G:Hp},PD P w b G d (pN prs L)->(∀ e,e≠d->G e=H4 e)->∀ {cc:Addr}{o:HO},(∀ φ,o≠ .ext φ)->H4 cc=some o->G cc=some o:=fun _ og _ _ n e=>by
  obtain ⟨φ,hxt⟩:=Y4.l.ext;rw [og _ (bN e hxt (n φ))];exact e
 have lp:∀ L:Pr2->Int,(pN prs L).length < sizeLine:=fun L=>by unfold pN;rw [ae];exact aH (by have:=O.zp;omega)
 exists _,rfl,th,rfl,⟨_,bK.of h8⟩,gW (xs:=tws) (fun i σ G=>∃ v6,σ=[some (.ref x),some (.ref q),some (.ref th),some (.ref bk),some (.ref lf),some (.int m),v6]/\PD P w b G d (pN prs (eX S ((bY as).take i) [] m))/\∀ e,e≠d->G e=H4 e) ⟨none,rfl,by rw [aAj,aR7];exact Y4.l,fun _ _=>rfl⟩ (by rintro i σ G _ ⟨_,_,pd,og⟩;exact bK.of (ku pd og (by intro φ z;cases z) h8)) ?_ ?_
 ·rintro i u σ G hu ⟨v6,rfl,pd,og⟩;obtain ⟨e,hi,cc,u1,u2,rfl,hc,v1',v2'⟩:=t7.at hu;have me:=mt _ (bq hi);have tg:TS H4 G:=fun a xs z=>ku pd og (by intro φ z;cases z) z
  have dl:=pd.get (tg _ _ hc) (v1'.ts tg) (v2'.ts tg);rw [show bH (pN prs (eX S ((bY as).take i) [] m)) (e.1,e.2)=some (.int (eX S ((bY as).take i) [] m e)) from mH me] at dl;exists _,rfl,x,cL,dx,_,_,rfl,ku pd og (by intro φ z;cases z) x4,T.cl,T.n5,la.2.2.2.2,_,rfl,d,_,rfl,dl,_,rfl,_,_,rfl,rfl,pd.put (tg _ _ hc) (v1'.ts tg) (v2'.ts tg) (lp _) fun G2 pd2 o2=>?_;rw [show bF (pN prs (eX S ((bY as).take i) [] m)) (e.1,e.2) (V.int (eX S ((bY as).take i) [] m e+m))=_ from aM6 (e:=e) me,bI0, <- aO hi] at pd2;exact ⟨_,rfl,pd2,fun a n=>(o2 a n).trans (og a n)⟩
 rintro σ G ⟨v6,rfl,pd,og⟩;rw [t7.length,be] at pd;exists _,rfl,bk,rfl,⟨_,bK.of (ku pd og (by intro φ z;cases z) h7)⟩,gW (xs:=bws) (fun i σ G=>∃ v6,σ=[some (.ref x),some (.ref q),some (.ref th),some (.ref bk),some (.ref lf),some (.int m),v6]/\PD P w b G d (pN prs (eX S (bY as) ((bS as).take i) m))/\∀ e,e≠d->G e=H4 e) ⟨v6,rfl,pd,og⟩ (by rintro i σ G _ ⟨_,_,pd,og⟩;exact bK.of (ku pd og (by intro φ z;cases z) h7)) ?_ ?_
 ·rintro i u σ G hu ⟨v6,rfl,pd,og⟩;obtain ⟨e,hi,cc,u1,u2,rfl,hc,v1',v2'⟩:=t6.at hu;have me:=mb _ (bq hi);have tg:TS H4 G:=fun a xs z=>ku pd og (by intro φ z;cases z) z
  have dl:=pd.get (tg _ _ hc) (v1'.ts tg) (v2'.ts tg);rw [show bH (pN prs (eX S (bY as) ((bS as).take i) m)) (e.1,e.2)=some (.int (eX S (bY as) ((bS as).take i) m e)) from mH me] at dl;exists _,rfl,x,cL,dx,_,_,rfl,ku pd og (by intro φ z;cases z) x4,T.cl,T.n5,la.2.2.2.2,_,rfl,d,_,rfl,dl,_,rfl,_,_,rfl,rfl,pd.put (tg _ _ hc) (v1'.ts tg) (v2'.ts tg) (lp _) fun G2 pd2 o2=>?_;rw [show bF (pN prs (eX S (bY as) ((bS as).take i) m)) (e.1,e.2) (V.int (eX S (bY as) ((bS as).take i) m e - m))=_ from aM6 (e:=e) me,bJ8, <- aO hi] at pd2;exact ⟨_,rfl,pd2,fun a n=>(o2 a n).trans (og a n)⟩
 rintro σ G5 ⟨v6,rfl,pd,og⟩;rw [t6.length,be,aQ9] at pd;have Y5:=Y4.setL (fun e=>S.l e+m * dl false as e) pd og;have q5:=ku pd og (by intro φ z;cases z) hq4;have x5:=ku pd og (by intro φ z;cases z) x4;have ts5:TS H G5:=(TS.of s5).trans fun a xs z=>ku pd og (by intro φ z;cases z) z
 have o5:vE a c d H G5:=fun e o _ _ n z=>by rw [og e n];exact s5 _ _ z
 have dgo:=dY Y5.o (iA Y5.vk) (rw'.ts ts5);rw [iK wk] at dgo;have zk:=O.zk;have zq:=O.zq;exists _,rfl,x,cL,dx,_,_,rfl,x5,T.cl,T.n1,la.1,_,rfl,q,_,_,_,rfl,rfl,bK.of q5,aw,a,_,rfl,dgo,_,rfl,_,_,rfl,rfl,_,lJ Y5.o (iA Y5.vk) (rw'.ts ts5) (by unfold dJ;rw [ae];exact aH ∅),?_;rw [show bF (dJ ks S.o) wz (V.int (S.o wz - m))=_ from yR wk,aW6];have Y6:=Y5.setO (fun k=>if k=wz then S.o k - m else S.o k);have naq:=bN q5 Y5.o qA;have nax:=bN x5 Y5.o lT;have q6:aJ G5 a (dB b (dJ ks fun k=>if k=wz then S.o k - m else S.o k)) q=some (.lst us):=by rw [aE naq];exact q5
 have x6:aJ G5 a (dB b (dJ ks fun k=>if k=wz then S.o k - m else S.o k)) x=some (.ins cL dx (lyF a c g v d)):=by rw [aE nax];exact x5
 have ts6:TS H (aJ G5 a (dB b (dJ ks fun k=>if k=wz then S.o k - m else S.o k))):=fun e xs z=>by rw [aE (bN (ts5 _ _ z) Y5.o lH)];exact ts5 _ _ z
 have o6:vE a c d H (aJ G5 a (dB b (dJ ks fun k=>if k=wz then S.o k - m else S.o k))):=o5.trans vE.setO;generalize aJ G5 a (dB b (dJ ks fun k=>if k=wz then S.o k - m else S.o k))=H6 at Y6 q6 x6 o6 ts6 ⊢;have dgp:=dY Y6.p (iA Y6.vq) (ry.ts ts6);rw [iK yq] at dgp;exists _,rfl,x,cL,dx,_,_,rfl,x6,T.cl,T.n2,la.2.1,_,rfl,q,_,_,_,rfl,rfl,bK.of q6,ay,c,_,rfl,dgp,_,rfl,_,_,rfl,rfl,_,lJ Y6.p (iA Y6.vq) (ry.ts ts6) (by unfold dJ;rw [ae];exact aH ∅),?_;rw [show bF (dJ qs S.p) y (V.int (S.p y - m))=_ from yR yq,aW6];have Y7:=Y6.setP (fun k=>if k=y then S.p k - m else S.p k);subst em;exact k _ (o6.trans vE.setP) Y7
theorem bS6 {b:Bool}{cL:Addr}(T:LyT K cL)  (C_Src:Cl P w K mg base 2 (bO8 P w b cL) "searched") (C_Aln:Cl P w K mg base 1 (aJ0 P w b cL) "lay_along") (C_Bck:Cl P w K mg base 1 (bC3 P w b) "answers_back"):gX P w K mg base "lay_all" "lay_all" cB9 3 ["laying"] (zQ P w b cL):=by
 refine jK ["laying","search"] fun H Q nd hr h=>?_
 obtain ⟨x,a,c,g,v,d,prs,ks,qs,S,o0,p0,f,rfl,Y,O,F,hf,k⟩:=h;have hr1:bU 1 _:=hr.mono (by decide);refine ⟨_,(gF 1 nd (cP C_Src hr (aS (pv 0)))
  (aI (jV km (lL (aK4 (cQ aM (pv 1) aD)))
  (aI (hX (cP C_Aln hr (aC (pv 0) (aS (cP C_Bck hr (aC (cQ aM (pv 1) aD) (aS (cQ aM (pv 1) aD))))))))
  (aG (psz 1 nd (cP C_Src hr (aS (pv 0)))))))
  (aG (aP (cQ aM (pv 1) aD))))),?_⟩
 exists _,rfl,x,a,c,g,v,d,prs,ks,qs,S,rfl,Y,O,fun H1 r dA u s1 hr1 hA hu1=>?_;generalize eN:(fM ks qs).length+1=N at *;exists fun j σ G=>∃ (S':eW An) (r dA:Addr) (u:V),σ=[some (.ref x),some (.ref r)]/\rJ P w b cL G x a c g v d prs ks qs S'/\Fl prs ks qs o0 p0 S'/\mN ks S'<=(j:Int)/\fG prs ks N f S=fG prs ks N j S'/\vE a c d H G/\G r=some (.tup [.ref dA,u])/\AhH P w b G dA (cZ prs S' N 0 (nY ks S')).1/\AhV b G (cZ prs S' N 0 (nY ks S')).2 u,⟨f,S,r,dA,u,rfl,Y.same s1,F,hf,rfl,vE.of s1,hr1,hA,hu1⟩,?_;rintro j σ G ⟨S',r,dA,u,rfl,Y',F',hj,ej,oG,hr',hA',hu'⟩;exists _,rfl,r,_,_,_,rfl,rfl,aT.of hr',rfl,_,rfl,?_;obtain ⟨h1,h2⟩:=sJ O.pr O.nk (S:=S') (qs:=qs);rw [eN] at h1 h2
 cases es:cZ prs S' N 0 (nY ks S') with
 |mk ah o =>
  rw [es] at h1 h2 hA' hu'
  cases o with
  |none =>
   cases (show u= .non from hu')
   have e0:=aG3 es j;rw [ej,e0] at k;exact bW (by decide) ⟨_,rfl,r,_,_,_,rfl,rfl,aT.of hr',rfl,k G dA oG Y' hA'⟩
  |some z =>
   obtain ⟨t,rfl,pt⟩:=(show ∃ t,u= .ref t/\PlT b G t z from hu')
   obtain ⟨y,zr,rfl,hy,pp,tr,eb⟩:=h2 z rfl;obtain ⟨w,e1,e2,a1,F2⟩:=F'.step O.nd pp hy;have n2:=mI F2.o;rw [mD O.nk e2] at n2;have lP:=iM pp.nodup (pp.inP O.pr);have lA:(fM ks qs).length<=100:=by
    unfold fM;rw [cq,ae,ae];have:=O.zk;have:=O.zq;omega
   have evn:=(pp.even _ _ rfl).1 rfl;obtain ⟨mt,mb⟩:=(pp.prs _ _ rfl).1 rfl;have yq:y∈qs:=by
    have:=pp.inP O.pr (false,y) bj;rcases cj.mp this with q | q
    ·obtain ⟨_,_,q⟩:=am.mp q;cases q
    ·obtain ⟨_,hh,q⟩:=am.mp q;cases q;exact hh
   have es2:tT ah N S' (false,y)=kN S' (((false,y) :: zr).map (·.2)) y w (jU S' (((false,y) :: zr).map (·.2)) y w):=by
    unfold tT;have eb:lG ah N (false,y)=(false,y) :: zr:=eb;rw [eb,e1];rfl
   cases j with
   |zero=>exfalso;omega
   |succ j =>
    have em:=aC1 es j;rw [es2] at em;refine dR (by rfl) ⟨fun σ' H'=>∃ (r dA:Addr) (u:V),σ'=[some (.ref x),some (.ref r)]/\rJ P _ b cL H' x a c g v d prs ks qs (kN S' (((false,y) :: zr).map (·.2)) y w (jU S' (((false,y) :: zr).map (·.2)) y w))/\vE a c d H H'/\H' r=some (.tup [.ref dA,u])/\AhH P _ b H' dA (cZ prs (kN S' (((false,y) :: zr).map (·.2)) y w (jU S' (((false,y) :: zr).map (·.2)) y w)) N 0 (nY ks (kN S' (((false,y) :: zr).map (·.2)) y w (jU S' (((false,y) :: zr).map (·.2)) y w)))).1/\AhV b H' (cZ prs (kN S' (((false,y) :: zr).map (·.2)) y w (jU S' (((false,y) :: zr).map (·.2)) y w)) N 0 (nY ks (kN S' (((false,y) :: zr).map (·.2)) y w (jU S' (((false,y) :: zr).map (·.2)) y w)))).2 u,(by rintro σ' H' ⟨r,dA,u,i1,i2,i3,i4,i5,i6⟩;exact ⟨j,dy _,_,r,dA,u,i1,i2,F2,by rw [mD O.nk e2];omega,ej.trans em,i3,i4,i5,i6⟩),?_⟩;exists _,rfl,_,rfl,r,_,_,_,rfl,rfl,aT.of hr',rfl,_,rfl,r,_,_,_,rfl,rfl,aT.of hr',rfl,dA,.ref t,ah,(false,y),zr,rfl,hA',⟨t,rfl,pt⟩,tr,∅,fun G1 l us s2 hl gl tus=>?_
    exists x,a,c,g,v,d,l,us,prs,ks,qs,((false,y) :: zr).map (·.2),S',y,w,rfl,Y'.same s2,O,gl,tus,⟨rfl,e1,by rw [ae];exact evn,by rw [ae];omega,mt,fun e he=>(mb e he).1,yq,e2⟩,fun G2 o2 Y2=>?_;exists _,rfl,x,a,c,g,v,d,prs,ks,qs,_,rfl,Y2,O,fun G3 r3 dA3 u3 s3 hr3 hA3 hu3=>?_;rw [eN] at hA3 hu3;exact ⟨r3,dA3,u3,rfl,Y2.same s3,((oG.same s2).trans o2).same s3,hr3,hA3,hu3⟩
theorem bV4 (C_Gcd:Cl P w K mg base 1 spGcd "common_divisor"):gX P w K mg base "lowest" "lowest" cB5 2 ["top","bottom"] spLow:=by
 refine jK ["top","bottom","divisor"] fun H Q nd hr h=>?_
 obtain ⟨a,b,rfl,ha,hb,hz,k⟩:=h;refine ⟨_,(gF 2 nd (cP C_Gcd hr (aC (pv 0) (aS (pv 1))))
  (aG (aP (aW (aC (aR oB (pv 0) (pv 2)) (aS (aR oB (pv 1) (pv 2)))))))),?_⟩
 have g0:0 < gI a b:=tD hb;have g1:gI a b < 2 ^ 200 * 2 ^ 200:=iu (bO7 hb) hz;exists _,rfl,_,rfl,a,b,rfl,ha,∅,?_;exists _,rfl,_,rfl,_,_,rfl,rfl,⟨g0,g1⟩,_,rfl,_,rfl,_,_,rfl,rfl,⟨g0,g1⟩,cT,fun p hp=>k p hp
theorem bV9 (C_Low:Cl P w K mg base 2 spLow "lowest"):gX P w K mg base "added" "added" cA6 3 ["one","other"] spAdd:=by
 refine jK ["one","other"] fun H Q nd hr h=>?_
 obtain ⟨p,q,⟨a,b⟩,⟨c,d⟩,rfl,hp,hq,⟨ha,hb,b1⟩,⟨hc,hd,d1⟩,k⟩:=h;exists _,(aG (aP (cP C_Low hr (aC (aR fH (aR bX (cQ aM (pv 0) aD) (cQ aM (pv 1) aD)) (aR bX (cQ aM (pv 1) aD) (cQ aM (pv 0) aD))) (aS (aR bX (cQ aM (pv 0) aD) (cQ aM (pv 1) aD))))))),?_;replace ha:jY a:=ha;replace hb:jY b:=hb;replace hc:jY c:=hc;replace hd:jY d:=hd;replace b1:1<=b:=b1;replace d1:1<=d:=d1;have m1:=gH ha.1 ha.2 hd.1 hd.2;have m0:=gH hc.1 hc.2 hb.1 hb.2;have m2:=gH hb.1 hb.2 hd.1 hd.2;have m3:1<=b * d:=by have:=mq (show 0 < b by omega) (show 0 < d by omega);omega
 exists _,rfl,p,_,_,_,rfl,rfl,aT.of hp,tO a b,_,rfl,q,_,_,_,rfl,rfl,aT.of hq,mS c d,_,_,rfl,rfl,⟨ha.below,hd.below⟩,?_;exists _,rfl,q,_,_,_,rfl,rfl,aT.of hq,tO c d,_,rfl,p,_,_,_,rfl,rfl,aT.of hp,mS a b,_,_,rfl,rfl,⟨hc.below,hb.below⟩,_,_,rfl,rfl,?_;exists _,rfl,p,_,_,_,rfl,rfl,aT.of hp,mS a b,_,rfl,q,_,_,_,rfl,rfl,aT.of hq,mS c d,_,_,rfl,rfl,⟨hb.below,hd.below⟩,?_;exact ⟨_,_,rfl,∅,m3,pk m2.2 (by decide),k⟩
theorem bA0 (C_Low:Cl P w K mg base 2 spLow "lowest"):gX P w K mg base "times" "times" aU9 3 ["one","other"] spTimes:=by
 refine jK ["one","other"] fun H Q nd hr h=>?_
 obtain ⟨p,q,a,b,c,d,rfl,hp,hq,ha,hb,hc,hd,b1,d1,k⟩:=h;exists _,(aG (aP (cP C_Low hr (aC (aR bX (cQ aM (pv 0) aD) (cQ aM (pv 1) aD)) (aS (aR bX (cQ aM (pv 0) aD) (cQ aM (pv 1) aD))))))),?_;have m1:=gH ha.1 ha.2 hc.1 hc.2;have m2:=gH hb.1 hb.2 hd.1 hd.2;have m3:1<=b * d:=by have:=mq (show 0 < b by omega) (show 0 < d by omega);omega
 exists _,rfl,p,_,_,_,rfl,rfl,aT.of hp,tO a b,_,rfl,q,_,_,_,rfl,rfl,aT.of hq,tO c d,_,_,rfl,rfl,⟨ha.below,hc.below⟩,?_;exists _,rfl,p,_,_,_,rfl,rfl,aT.of hp,mS a b,_,rfl,q,_,_,_,rfl,rfl,aT.of hq,mS c d,_,_,rfl,rfl,⟨hb.below,hd.below⟩,?_;exact ⟨_,_,rfl,m1.1,m3,pk m2.2 (by decide),k⟩
theorem aV2 (C_Low:Cl P w K mg base 2 spLow "lowest"):gX P w K mg base "minus" "minus" bE4 3 ["one","other"] spMinus:=by
 refine jK ["one","other"] fun H Q nd hr h=>?_
 obtain ⟨p,q,a,b,c,d,rfl,hp,hq,ha,hb,hc,hd,b1,d1,hle,k⟩:=h;exists _,(aG (aP (cP C_Low hr (aC (aR pF (aR bX (cQ aM (pv 0) aD) (cQ aM (pv 1) aD)) (aR bX (cQ aM (pv 1) aD) (cQ aM (pv 0) aD))) (aS (aR bX (cQ aM (pv 0) aD) (cQ aM (pv 1) aD))))))),?_;have m2:=gH hb.1 hb.2 hd.1 hd.2;have m3:1<=b * d:=by have:=mq (show 0 < b by omega) (show 0 < d by omega);omega
 exists _,rfl,p,_,_,_,rfl,rfl,aT.of hp,tO a b,_,rfl,q,_,_,_,rfl,rfl,aT.of hq,mS c d,_,_,rfl,rfl,⟨ha.below,hd.below⟩,?_;exists _,rfl,q,_,_,_,rfl,rfl,aT.of hq,tO c d,_,rfl,p,_,_,_,rfl,rfl,aT.of hp,mS a b,_,_,rfl,rfl,⟨hc.below,hb.below⟩,_,_,rfl,rfl,?_;exists _,rfl,p,_,_,_,rfl,rfl,aT.of hp,mS a b,_,rfl,q,_,_,_,rfl,rfl,aT.of hq,mS c d,_,_,rfl,rfl,⟨hb.below,hd.below⟩,?_;exact ⟨_,_,rfl,∅,m3,pk m2.2 (by decide),k⟩
theorem bK6  : gX P w K mg base "less" "less" bN6 1 ["one","other"] spLessF:=by
 refine jK ["one","other"] fun H Q nd hr h=>?_
 obtain ⟨p,q,a,b,c,d,rfl,hp,hq,ha,hb,hc,hd,k⟩:=h;exists _,(aG (aP (pec mW (aR bX (cQ aM (pv 0) aD) (cQ aM (pv 1) aD)) (aR bX (cQ aM (pv 1) aD) (cQ aM (pv 0) aD))))),?_;exists _,rfl,p,_,_,_,rfl,rfl,aT.of hp,tO _ _,_,rfl,q,_,_,_,rfl,rfl,aT.of hq,mS _ _,_,_,rfl,rfl,⟨ha.below,hd.below⟩,?_;exists _,rfl,q,_,_,_,rfl,rfl,aT.of hq,tO _ _,_,rfl,p,_,_,_,rfl,rfl,aT.of hp,mS _ _,_,_,rfl,rfl,⟨hc.below,hb.below⟩,?_;exact ⟨_,_,rfl,rfl,k⟩
theorem bJ4 (C_Add:Cl P w K mg base 3 spAdd "added"):gX P w K mg base "come_to" "come_to" bM6 4 ["shares"] spCome:=by
 refine jK ["shares","total","share"] fun H Q nd hr h=>?_
 obtain ⟨l,us,fs,rfl,hl,tw,sf,k⟩:=h;refine ⟨_,(gF 1 nd (aW (aC aD (aS aD)))
  (aI (wK (cH (pv 0)) (cW 2 nd)
  (aG (psz 1 nd (cP C_Add hr (aC (pv 1) (aS (pv 2)))))))
  (aG (aP (pv 1))))),?_⟩
 exists cT,fun t0 ht0=>?_;refine ⟨_,rfl,l,rfl,⟨_,bK.of (aA ht0 _ _ _ hl)⟩,gW (K:=K) (a:=l) (xs:=us) (fun i σ H1=>∃ q v2,σ=[some (.ref l),some (.ref q),v2]/\aN H H1/\bP H1 q ((fs.take i).foldl jI (0,1)).1 ((fs.take i).foldl jI (0,1)).2)
  ⟨t0,_,rfl,aA ht0 _,aB⟩ (by rintro i σ H1 _ ⟨_,_,_,e,_⟩;exact bK.of (e _ _ hl)) ?_ ?_⟩
 ·rintro i v σ H1 hv ⟨q,v2,rfl,s1,hq⟩;obtain ⟨f,hf,qq,rfl,hqq⟩:=tw.at hv;have sa:=zH sf hf;exists _,rfl,_,rfl,q,qq,_,f,rfl,hq,s1 _ _ hqq,sa.1,sa.2,fun r hr'=>⟨r,_,rfl,s1.trans (aA hr' _),?_⟩;rw [aO hf,ot];exact aB
 ·rintro σ H1 ⟨q,v2,rfl,s1,hq⟩;rw [tw.length,be] at hq;exact ⟨_,rfl,k _ q s1 hq⟩
theorem aY7 {b:Bool}{cL:Addr}(T:LyT K cL) (MK:MkL P w K mg base 3 (aG8 P w K b cL) cL "Laying")  (C_Com:Cl P w K mg base 2 (bO1 K) "common_bottom") (C_Lal:Cl P w K mg base 3 (zQ P w b cL) "lay_all") (C_Ams:Cl P w K mg base 2 (bO4 K b) "amounts_of") (C_Amt:Cl P w K mg base 1 spAmt "amount_of") (C_Times:Cl P w K mg base 3 spTimes "times") (C_Low:Cl P w K mg base 2 spLow "lowest") (m_sum:mg "sum"=none) (m_tuple:mg "tuple"=none) (m_dict:mg "dict"=none) (m_list:mg "list"=none):gX P w K mg base "paired" "paired" cD5 5 ["one","other","pairs","factor","rest"] (aT9 P w b):=by
 refine jK ["one","other","pairs","factor","rest","limits","bottom","laying","reached","laid"] fun H Q nd hr h=>?_
 obtain ⟨p1,p2,p3,p4,p5,ws1,ws2,ws3,es1,es2,prs,fac,rest,M,rfl,h1,t1,h2,t2,h3,t3,h4,h5,O,k⟩:=h;have hu:=fP hr;have hr2:bU 2 _:=hr.mono (by decide);refine ⟨_,(aI (iB ["y","share","factor"] [none,none,some 3] (i:=5) nd rfl (jg rfl) (cM (pv 1)) (fun _ _ _ _=>(kT K (n:=2) rfl (aL (cW 0) (aL (cW 1) bE)))) (fun _ _ _ _=>cN) (fun _ _ _ _=>(aW (aC (pv 0) (aS (cP C_Times hr (aC (pv 2) (aS (pv 1)))))))))
  (gF 6 nd (cP C_Com hr (aS (aR xG (bJ ["answer","share"] [none,none] (cH (aR xG (vH hZ m_list jv (aS (pv 0))) (pv 5))) (fun _ _ _ _=>(kT K (n:=2) rfl (aL (cW 0) (aL (cW 1) bE)))) (fun _ _ _ _=>cN) (fun _ _ _ _=>(pv 1))) (fF (aS (pv 4))))))
  (gF 7 nd (pml MK hr (aC (cP C_Ams hr (aC (pv 0) (aS (pv 6)))) (aC (cP C_Ams hr (aC (pv 5) (aS (pv 6)))) (aS (pv 2)))))
  (gF 8 nd (cP C_Lal hr (aS (pv 7)))
  (aI (cE (iL cF0 (pP aR9 m_sum aAn (aS (zD (gA (pv 7) rfl)))) (cP C_Amt hr (aC (pv 4) (aS (pv 6))))) (gF 9 nd (gA (pv 7) rfl)
  (aG (aP (aW (aC cK (aS (vH (kJ hr) m_dict fi (aS (bJ ["pair","bottom","laid"] [none,some 6,some 9] (cM (pv 2)) (fun _ _ _ _=>(cW 0)) (fun _ _ _ _=>(gM (iL lK (aU0 P w hr (pv 2) (pv 0)) aD))) (fun _ _ _ _=>(aW (aC (pv 0) (aS (cP C_Low hr (aC (aU0 P w hr (pv 2) (pv 0)) (aS (pv 1))))))))))))))))) aU)
  (aG (aP (aW (aC cK (aS (vH fK m_tuple gy (aS (bJ ["x","share","reached"] [none,none,some 8] (cM (pv 0)) (fun _ _ _ _=>(kT K (n:=2) rfl (aL (cW 0) (aL (cW 1) bE)))) (fun _ _ _ _=>(gM (lL (cB8 P w hr (aW (aC cK (aS (pv 0)))) (pv 2))))) (fun _ _ _ _=>(pv 0))))))))))))))),?_⟩
 have la:=fun a b g v d=>vM a b g v d
 obtain ⟨b1,bM,b3,bd1,bd2,bd3⟩:=O.bot;have l1:=t1.length;have l2:=t2.length;have z1:=O.ly.zk;have z2:=O.ly.zq;have z3:=O.ly.zp;rw [ae] at z1 z2;exists _,rfl,p2,rfl,⟨_,aT.of h2⟩,cC (xs:=ws2) (fun i ys σ G=>aN H G/\(∃ v1 v2,σ=[v1,v2,some (.ref p4)])/\bC (nZ b G) ys ((es2.take i).map (bU0 fac))) (aH ∅) ⟨aN.refl _,⟨_,_,rfl⟩,trivial⟩ (by rintro i ys σ G ⟨_,_,t⟩;rw [t.length,ae,bx];omega) (by rintro i ys σ G _ ⟨s,_⟩;exact aT.of (s _ _ h2)) ?_ ?_
 ·rintro i u ys σ G hu ⟨s,⟨v1,v2,rfl⟩,t⟩;obtain ⟨e,he,c,xv,q,rfl,w1,wx,w2⟩:=t2.at hu;have fe:=O.oth e (bq he);exists c,_,rfl,aT.of (s _ _ w1),rfl,_,_,rfl,_,_,rfl,rfl,?_;exists _,rfl,_,rfl,_,rfl,p4,q,_,_,_,_,rfl,s _ _ h4,s _ _ w2,O.fc.1,O.fc.2.1,fe.1,fe.2.1,O.fc.2.2,fe.2.2,fun r hr=>?_;have s12:aN H (aJ G r (.tup (eJ (fac.1 * e.2.1) (fac.2 * e.2.2)))):=s.trans (aA hr _);have t12:=t.mono fun _ _ z=>nZ.ts (TS.of (aA hr (.tup (eJ (fac.1 * e.2.1) (fac.2 * e.2.2))))) z
  have g12:aJ G r (.tup (eJ (fac.1 * e.2.1) (fac.2 * e.2.2))) r=some (.tup (eJ (fac.1 * e.2.1) (fac.2 * e.2.2))):=aB;generalize aJ G r (.tup (eJ (fac.1 * e.2.1) (fac.2 * e.2.2)))=G2 at s12 t12 g12 ⊢;exists cT,fun r2 hr2=>⟨s12.trans (aA hr2 _),⟨_,_,rfl⟩,?_⟩;have tr2:=TS.of (aA hr2 (.tup [xv,.ref r]));rw [aO he,bp];exact bC.append (t12.mono fun _ _ z=>nZ.ts tr2 z) ⟨⟨r2,xv,r,rfl,aB,(wx.ts (TS.of s12)).ts tr2,tr2 _ _ g12⟩,trivial⟩
 rintro lws σ G ⟨s,_,t⟩ lm hlm;rw [l2,be] at t
 change bC (nZ b G) lws (bQ fac es2) at t
 have s1:=s.trans (aA hlm (.lst lws));have tl:=t.mono fun _ _ z=>nZ.ts (TS.of (aA hlm (.lst lws))) z
 have hl:aJ G lm (.lst lws) lm=some (.lst lws):=aB;generalize aJ G lm (.lst lws)=H1 at s1 tl hl ⊢;clear t s hlm;have ll:=tl.length;have lz:(bQ fac es2).length=es2.length:=ae ..;exists _,rfl,p1,ws1,rfl,.inr (aT.of (s1 _ _ h1)),fun c1 hc1=>?_;exists _,rfl,c1,lm,_,_,rfl,rfl,aB,aA hc1 _ _ _ hl,iz (aH ∅),fun c2 hc2=>?_;have s2:aN H1 (aJ (aJ H1 c1 (.lst ws1)) c2 (.lst (ws1++lws))):=(aA hc1 _).trans (aA hc2 _);have g2:aJ (aJ H1 c1 (.lst ws1)) c2 (.lst (ws1++lws)) c2=some (.lst (ws1++lws)):=aB;generalize aJ (aJ H1 c1 (.lst ws1)) c2 (.lst (ws1++lws))=H2 at s2 g2 ⊢;clear hc1 hc2;have ta:bC (nZ b H2) (ws1++lws) (es1++bQ fac es2):=bC.append (t1.mono fun _ _ z=>nZ.ts (TS.of (s1.trans s2)) z) (tl.mono fun _ _ z=>nZ.ts (TS.of s2) z);have lta:=ta.length;rw [cq,cq] at lta;exists c2,rfl,⟨_,bK.of g2⟩,cR (xs:=ws1++lws) (fun i ys σ G=>aN H2 G/\(∃ v1 v2,σ=[v1,v2])/\bC (FrE G) ys (((es1++bQ fac es2).take i).map (·.2))) (aH (by rw [cq];omega)) ⟨aN.refl _,⟨_,_,rfl⟩,trivial⟩ (by rintro i ys σ G ⟨_,_,t⟩;rw [t.length,ae,bx];omega) (by rintro i ys σ G _ ⟨s,_⟩;exact bK.of (s _ _ g2)) ?_ ?_
 ·rintro i u ys σ G hu ⟨s,⟨v1,v2,rfl⟩,t⟩;obtain ⟨e,he,c,xv,q,rfl,w1,wx,w2⟩:=ta.at hu;exists c,_,rfl,aT.of (s _ _ w1),rfl,_,_,rfl,_,_,rfl,rfl,?_;exists _,rfl,s,⟨_,_,rfl⟩,?_;rw [aO he,bp];exact bC.append t ⟨⟨q,rfl,s _ _ w2⟩,trivial⟩
 rintro ys σ G ⟨s,_,t⟩ c3 hc3;have ly:=t.length;rw [cq,lta, <- cq,be] at t;exists _,rfl,aV5,fun c4 hc4=>⟨c3,c4,_,_,rfl,rfl,aA hc4 _ _ _ aB,aB,?_,fun c5 hc5=>?_⟩
 ·rw [t.length,ae,cq];exact iz (aH (by show _+1<=1000;omega))
 have s3:aN G (aJ (aJ (aJ G c3 (.lst ys)) c4 (.lst [.ref p5])) c5 (.lst (ys++[.ref p5]))):=((aA hc3 _).trans (aA hc4 _)).trans (aA hc5 _);have g3:aJ (aJ (aJ G c3 (.lst ys)) c4 (.lst [.ref p5])) c5 (.lst (ys++[.ref p5])) c5=some (.lst (ys++[.ref p5])):=aB;generalize aJ (aJ (aJ G c3 (.lst ys)) c4 (.lst [.ref p5])) c5 (.lst (ys++[.ref p5]))=H3 at s3 g3 ⊢;clear hc3 hc4 hc5;have s13:aN H1 H3:=(s2.trans s).trans s3;have s03:aN H H3:=s1.trans s13;have t3':bC (FrE H3) (ys++[.ref p5]) ((es1++bQ fac es2).map (·.2)++[rest]):=bC.append (t.mono (by rintro _ _ ⟨q,e1,e2⟩;exact ⟨q,e1,s3 _ _ e2⟩)) ⟨⟨p5,rfl,s03 _ _ h5⟩,trivial⟩;exists c5,_,_,M,rfl,bK.of g3,t3',fun u hu=>(O.fr u hu).1,fun u hu=>(O.fr u hu).2,O.m1,aM2 (by have:=O.m1;omega) O.mb,?_
 change (bS7 _ _) _ _ _
 generalize eb:qX ((es1++bQ fac es2).map (·.2)++[rest])=bt;have eb:jF es1 es2 fac rest=bt:=eb;rw [eb] at b1 b3;have A1:=O.am1;have A2:=O.am2;have bb:=aM2 ∅ b3;exists _,rfl,_,rfl,p1,ws1,es1,bt,rfl,.inr (aT.of (s03 _ _ h1)),t1.mono (fun _ _ z=>nZ.ts (TS.of s03) z),A1.1,A1.2.1,A1.2.2,∅,bb,fun H4 a s4 ha0 ha=>?_;exists _,rfl,_,rfl,lm,lws,bQ fac es2,bt,rfl,.inl (bK.of (s4 _ _ (s13 _ _ hl))),tl.mono (fun _ _ z=>nZ.ts (TS.of (s13.trans s4)) z),A2.1,A2.2.1,A2.2.2,∅,bb,fun H5 bb' s5 hb0 hb=>?_;rw [jQ] at hb;exists _,rfl,fun x dx hx hdx ndx=>?_;have s05:=(s03.trans s4).trans s5;have hx':aJ H5 dx (.own x) x=none:=by rw [aE ndx.symm];exact hx
 have s6:aN H5 (aJ (aJ H5 dx (.own x)) x (.ins cL dx [])):=(aA hdx _).trans (aA hx' _);have vk1:∀ k∈es1.map (·.1),VA b k:=aD9 t1;have vk2:∀ k∈es2.map (·.1),VA b k:=aD9 t2;exists x,a,bb',p3,dx,ws3,prs,_,_,_,_,rfl,aB,s6 _ _ (s5 _ _ ha),s6 _ _ hb,aF ha hb0,s6 _ _ (s05 _ _ h3),t3.mono (fun _ _ z=>jJ.ts (TS.of (s05.trans s6)) z),O.ly.nd,O.ly.zp,vk1,vk2,fun H6 g v d ox hd Y=>⟨rfl,?_⟩;have s56:aN H5 H6:=fun c o e=>ox c o (aF e hx) (s6 c o e)
 have hd5:=s6.free hd;clear s6 hx' hd;have fl:=O.fl;have Y:rJ P w b cL H6 x a bb' g v d prs (es1.map (·.1)) (es2.map (·.1)) (xW es1 es2 fac rest):=by unfold xW;rw [eb];exact Y
 exists _,rfl,x,a,bb',g,v,d,prs,_,_,xW es1 es2 fac rest,_,_,(mN (es1.map (·.1)) (xW es1 es2 fac rest)).toNat,rfl,Y,O.ly,fl,by have:=mI fl.o;omega,fun H7 dA o7 Y7 hA=>?_
 change rJ P w b cL H7 x a bb' g v d prs (es1.map (·.1)) (es2.map (·.1)) (kG prs es1 es2 fac rest).1 at Y7
 change AhH P w b H7 dA (kG prs es1 es2 fac rest).2 at hA
 have s07:aN H H7:=fun c o e=>o7 c o (aF (s03 _ _ e) ha0) (aF (s4 _ _ (s03 _ _ e)) hb0) (aF (s05 _ _ e) hd5) (s56 _ _ (s05 _ _ e))
 clear o7 Y s56 ox;obtain ⟨dx7,hx7⟩:=Y7.ob;have la:=vM a bb' g v d;have F:=O.end_.1;exists _,rfl,x,cL,dx7,_,_,rfl,hx7,T.cl,T.n1,la.1,a,_,rfl,aL1 Y7.o,fun vv hvv=>⟨vv,a,(es1.map (·.1)).map (kG prs es1 es2 fac rest).1.o,rfl,aB,?_,?_⟩
 ·have:=aL1 (P:=P) (w:=w) (aA hvv (kO vv a) _ _ Y7.o);rw [show (dJ (es1.map (·.1)) (kG prs es1 es2 fac rest).1.o).map (·.2)=((es1.map (·.1)).map (kG prs es1 es2 fac rest).1.o).map V.int by unfold dJ;simp [List.map_map,Function.comp_def]] at this;exact this
 have s78:=aA hvv (kO vv a);have s08:=s07.trans s78;have Y8:=Y7.same s78;have hx8:=s78 _ _ hx7;have hA8:=hA.same s78;generalize aJ H7 vv (kO vv a)=H8 at s78 s08 Y8 hx8 hA8 ⊢;clear hvv s78 hA;exists _,rfl,_,rfl,p5,rest,bt,rfl,s08 _ _ h5,O.rs.2.2,O.rs.1.bits,O.rs.2.1.bits,∅,bb,_,_,rfl,rfl,_,rfl,?_
 change if decide (aC2 prs es1 es2 fac rest<=iD rest bt)=true then _ else _
 have eg:wT prs es1 es2 fac rest↔aC2 prs es1 es2 fac rest<=iD rest bt:=by unfold wT;rw [eb]
 by_cases cg:aC2 prs es1 es2 fac rest<=iD rest bt
 ·refine dR (ar cg) ?_;have kk:=fun H' r s' z=>k H' r s' (.inl ⟨eg.mpr cg,z⟩)
  clear k;have efr:∀ e,vU prs es1 es2 fac rest e=aK ((kG prs es1 es2 fac rest).1.l e) bt:=fun e=>by unfold vU;rw [eb]
  have eli:zU prs es1 es2 fac rest=prs.filter fun e=>decide (0 < (kG prs es1 es2 fac rest).1.l e):=rfl
  generalize zU prs es1 es2 fac rest=lv at eli kk;generalize vU prs es1 es2 fac rest=fr at efr kk;generalize (kG prs es1 es2 fac rest).1=S at Y7 Y8 F efr eli;exists _,rfl,x,cL,dx7,_,_,rfl,hx8,T.cl,T.n5,la.2.2.2.2,?_;have lw:=t3.length;exists _,rfl,p3,rfl,⟨_,aT.of (s08 _ _ h3)⟩,cC (xs:=ws3) (fun i ys σ G=>aN H8 G/\(∃ v1,σ=[v1,some (.int bt),some (.ref d)])/\∃ zs,bC (PgE b G) ys zs/\zs.map (·.1)=(prs.take i).filter (fun e=>decide (0 < S.l e))/\∀ z∈zs,bP G z.2 (fr z.1).1 (fr z.1).2) (aH ∅) ⟨aN.refl _,⟨_,rfl⟩,[],trivial,rfl,fun _ z=>absurd z cu⟩ (by rintro i ys σ G ⟨_,_,zs,t,e,_⟩;have:=ed List.length e;rw [ae] at this;rw [t.length,this];exact cy (de _ _) (by rw [bx];omega)) (by rintro i ys σ G _ ⟨s,_⟩;exact aT.of (s _ _ (s08 _ _ h3))) ?_ ?_
  ·rintro i u ys σ G hu ⟨s,⟨v1,rfl⟩,zs,t,ez,fz⟩;obtain ⟨e,hi,c,y1,y2,rfl,hc,vy1,vy2⟩:=t3.at hu;have me:=bq hi;have dl {G':Hp}(s':aN H8 G'):sQ P w G' d (.ref c) (some (.int (S.l e))):=by
    have sG:=s08.trans s';have dl:=(Y8.l.keep (TS.of s') (fun _ q=>s' _ _ q)).get (sG _ _ hc) (vy1.ts (TS.of sG)) (vy2.ts (TS.of sG));rw [show bH (pN prs S.l) (e.1,e.2)=some (.int (S.l e)) from mH me] at dl;exact dl
   exists _,rfl,_,rfl,d,_,rfl,dl s,_,_,rfl,rfl,_,rfl,?_;rw [aO hi,fk]
   by_cases c0:0 < S.l e
   ·refine dR (by simpa using c0) ⟨_,rfl,_,rfl,_,rfl,d,_,rfl,dl s,_,rfl,_,_,rfl,∅,b1,pk b3 (by decide),fun r hr=>⟨cT,fun r2 hr2=>?_⟩⟩;have sn:aN G (aJ (aJ G r (.tup (eJ (S.l e) bt))) r2 (.tup [.ref c,.ref r])):=(aA hr _).trans (aA hr2 _);have gr:aJ (aJ G r (.tup (eJ (S.l e) bt))) r2 (.tup [.ref c,.ref r]) r=some (.tup (eJ (S.l e) bt)):=aA hr2 _ _ _ aB;have gr2:aJ (aJ G r (.tup (eJ (S.l e) bt))) r2 (.tup [.ref c,.ref r]) r2=some (.tup [.ref c,.ref r]):=aB;generalize aJ (aJ G r (.tup (eJ (S.l e) bt))) r2 (.tup [.ref c,.ref r])=G2 at sn gr gr2 ⊢;rw [fb (by simpa using c0)];have sG:=(s08.trans s).trans sn;exists s.trans sn,⟨_,rfl⟩,zs++[(e,r)],bC.append (t.mono fun _ _ z=>PgE.ts (TS.of sn) z) ⟨⟨r2,c,rfl,gr2,sX (sG _ _ hc) (vy1.ts (TS.of sG)) (vy2.ts (TS.of sG)),vy1.va,vy2.va⟩,trivial⟩,by rw [bp,ez];rfl,fun z' hz'=>?_;rcases cj.mp hz' with q | q
    ·exact sn _ _ (fz z' q)
    ·rw [ck.mp q];unfold bP;rw [efr];exact gr
   ·refine bW (by simpa using c0) ⟨s,⟨_,rfl⟩,zs,t,?_,fz⟩;rw [dz (by simpa using c0),eu,fw];exact ez
  rintro ys' σ' G' ⟨s8,_,zs,tz,ez,fz⟩ l hl';rw [lw,be, <- eli] at ez;have ndz:(zs.map (·.1)).Nodup:=by rw [ez,eli];exact O.ly.nd.sublist gq
  have lzs:zs.length<=200:=by
   have:=ed List.length ez;rw [ae,eli] at this;rw [this];exact cy (de _ _) z3
  have tz2:=tz.mono fun _ _ z=>PgE.ts (TS.of (aA hl' (.lst ys'))) z
  exists l,ys',_,rfl,aB,aV7 tz2,by rw [ae];unfold pgL;rw [ae];exact aH ∅,fun D G9 hD D9 k9=>?_;rw [lY (f:=iT b) (l:=pgL zs) (by rw [aU3];exact ndz) (fun e he e' he' q=>lU (aW0 tz2 e he) (aW0 tz2 e' he') q)] at D9;have s9:aN G' G9:=(aA hl' (.lst ys')).trans fun e o q=>by rw [k9 e (aF q hD)];exact q
  exists cT,fun r hr=>?_;have sr:=aA hr (.tup [.str "paired",.ref D]);exact kk _ r (((s08.trans s8).trans s9).trans sr) ⟨D,aB,PgH.same sr ⟨zs,⟨D9,aW0 tz2⟩,ez,fun z hz=>s9 _ _ (fz z hz)⟩⟩
 ·refine bW (by simpa using cg) ?_;have kk:=fun H' r s' z=>k H' r s' (.inr ⟨fun q=>cg (eg.mp q),z⟩)
  clear k;have ec:bK3 prs es1 es2 fac rest=(es1.map (·.1)).filter (inR (kG prs es1 es2 fac rest).2):=rfl;generalize bK3 prs es1 es2 fac rest=ct at ec kk;generalize (kG prs es1 es2 fac rest).2=ah at ec hA8;exists _,rfl,p1,rfl,⟨_,aT.of (s08 _ _ h1)⟩,cC (xs:=ws1) (fun i ys σ G=>aN H8 G/\(∃ v1 v2,σ=[v1,v2,some (.ref dA)])/\bC (cV b G) ys (((es1.take i).map (·.1)).filter (inR ah))) (aH ∅) ⟨aN.refl _,⟨_,_,rfl⟩,trivial⟩ (by rintro i ys σ G ⟨_,_,t⟩;rw [t.length];exact cy (de _ _) (by rw [ae,bx];omega)) (by rintro i ys σ G _ ⟨s,_⟩;exact aT.of (s _ _ (s08 _ _ h1))) ?_ ?_
  ·rintro i u ys σ G hu ⟨s,⟨v1,v2,rfl⟩,t⟩;obtain ⟨e,he,c,xv,q,rfl,w1,wx,w2⟩:=t1.at hu;have sG:=s08.trans s;exists c,_,rfl,aT.of (sG _ _ w1),rfl,_,_,rfl,_,_,rfl,rfl,?_;exists _,rfl,cT,fun r hr=>?_;have sr:=aA hr (.tup [.str "one",xv]);have hAr:=(hA8.same s).same sr;obtain ⟨kvs,hk,hkk⟩:=hAr;have vx:=(wx.ts (TS.of sG)).ts (TS.of sr);have gg:=hk.get (z:=(true,e.1)) ⟨xv,sF hr,vx⟩;have sn:=s.trans sr;have t2':=t.mono fun _ _ z=>cV.ts (TS.of sr) z
   exists _,rfl,dA,_,rfl,gg,_,rfl,?_;rw [aO he,bp,fk];have ev:(bH kvs ((true,e.1):Pl An)).isSome=inR ah e.1:=by
    by_cases m:((true,e.1):Pl An)∈aV ah
    ·cases q:eL ah (true,e.1) with
     |none=>exact absurd m (jO.mpr q)
     |some o =>
      obtain ⟨w',hw',_⟩:=(hkk.look (z:=(true,e.1))).2 _ q;rw [hw'];exact (bK0 m).symm
    ·rw [(hkk.look (z:=(true,e.1))).1 (jO.mp m)];exact (bS2 m).symm
   rw [ev]
   by_cases c0:inR ah e.1=true
   ·refine dR c0 ⟨_,rfl,sn,⟨_,_,rfl⟩,?_⟩;rw [show [e].map (·.1)=[e.1] from rfl,fb c0,eu];exact bC.append t2' ⟨vx,trivial⟩
   ·refine bW c0 ⟨sn,⟨_,_,rfl⟩,?_⟩;rw [show [e].map (·.1)=[e.1] from rfl,dz c0,eu,fw];exact t2'
  rintro ys' σ' G' ⟨s8,_,tz⟩ l hl';rw [l1,be, <- ec] at tz;exists l,ys',rfl,.inl ⟨bK.of aB,fun tt htt=>⟨cT,fun r hr=>?_⟩⟩;have sn:=((aA hl' (.lst ys')).trans (aA htt (.tup ys'))).trans (aA hr (.tup [.str "broken",.ref tt]));exact kk _ r ((s08.trans s8).trans sn) ⟨tt,ys',aB,aA hr _ _ _ aB,tz.mono fun _ _ z=>cV.ts (TS.of sn) z⟩
theorem bS3 (C_Times:Cl P w K mg base 3 spTimes "times") (C_Less:Cl P w K mg base 1 spLessF "less") (m_dict:mg "dict"=none):gX P w K mg base "those_above" "those_above" cE3 4 ["one","other","factor"] spAbove:=by
 refine jK ["one","other","factor","others","limits"] fun H Q nd hr h=>?_
 obtain ⟨b,t1,t2,p,c1,c2,es1,es2,f,rfl,A,k⟩:=h;have hu:=fP hr;have hr1:bU 1 _:=hr.mono (by decide);refine ⟨_,(gF 3 nd (vH (kK hr1) m_dict fi (aS (pv 1)))
  (aI (iB ["answer","share","factor","others"] [none,none,some 2,some 3] (i:=4) nd rfl (jg rfl) (cM (pv 0)) (fun _ _ _ _=>(kT K (n:=2) rfl (aL (cW 0) (aL (cW 1) bE)))) (fun _ _ _ _=>cN) (fun _ _ _ _=>(aW (aC (pv 0) (aC (pv 1) (aS (cP C_Times hr (aC (pv 2) (aS (fR hu (pv 3) (pv 0) (aW (aC aD (aS aD))) ⟨rfl,rfl,rfl,rfl⟩))))))))))
  (aG (aP (bJ ["parts"] [none] (cH (pv 4)) (fun _ _ _ _=>(cW 0)) (fun _ _ _ _=>(gM (fZ (cP C_Less hr (aC (cQ (bE1 K) (pv 0) aD) (aS (cQ (bE1 K) (pv 0) aD))))))) (fun _ _ _ _=>(pv 0))))))),?_⟩
 obtain ⟨us1,h1,tw1⟩:=A.h1;obtain ⟨us2,h2,tw2⟩:=A.h2;have l1:=tw1.length;have l2:=tw2.length;have m1:=A.o1.l2;have m2:=A.o2.l2;obtain ⟨o,o0,od⟩:=rK (aH ∅) A.o2.nd tw2;exists _,rfl,t2,us2,o,rfl,h2,o0,fun d hd=>⟨(od d hd).1,?_⟩;obtain ⟨_,hD,sD⟩:=od d hd;generalize aJ H d (o us2.length)=H1 at hD sD ⊢;refine ⟨_,rfl,t1,rfl,⟨_,aT.of (sD _ _ h1)⟩,cC (K:=K) (a:=t1) (xs:=us1) (fun i zs σ H2=>aN H1 H2/\(∃ v1 v2,σ=[v1,v2,some (.ref p),some (.ref d)])/\bC (zJ b es2 f H2) zs (es1.take i))
  (aH ∅) ⟨aN.refl _,⟨_,_,rfl⟩,trivial⟩ (fun i zs σ H2 ⟨_,_,e⟩=>by
   rw [e.length,bx];omega) (by rintro i zs σ H2 _ ⟨e,_⟩;exact aT.of (e _ _ (sD _ _ h1))) ?_ ?_⟩
 ·rintro i v zs σ H2 hv ⟨s2,⟨v1,v2,rfl⟩,tw⟩;obtain ⟨e,he,me,t,x,q,rfl,ht,hx,hq⟩:=fY.at tw1 hv;have g:=sD.trans s2;exists t,_,rfl,aT.of (g _ _ ht),rfl,_,_,rfl,_,_,rfl,rfl,?_;exists _,rfl,_,rfl,_,rfl,_,rfl,d,rfl,(hD.same s2).isD,_,rfl,cT,fun z hz=>?_;obtain ⟨H3,e0,s3,h3⟩:=lay hz (.tup [.int 0,.int 1]);rw [e0];clear e0;obtain ⟨o,dg,og⟩:=(hD.same (s2.trans s3)).get (hx.ts (.of (g.trans s3)));obtain ⟨q2,e2,hq2⟩:=bE7 og h3;have bf:=A.of.b1;have bs:=(A.o2.shOk e.1)
  exists o,dg,p,q2,f.1,f.2,(gY es2 e.1).1,(gY es2 e.1).2,by rw [e2];rfl,(g.trans s3) _ _ A.hf,hq2,bf.1,bf.2,bs.b1.1,bs.b1.2,A.of.b,bs.b,fun r hr'=>?_;have s4:=aA hr' (.tup (eJ (f.1 * (gY es2 e.1).1) (f.2 * (gY es2 e.1).2)));have h4:bP (aJ H3 r (.tup (eJ (f.1 * (gY es2 e.1).1) (f.2 * (gY es2 e.1).2)))) r (cU f (gY es2 e.1)).1 (cU f (gY es2 e.1)).2:=aB;generalize aJ H3 r (.tup (eJ (f.1 * (gY es2 e.1).1) (f.2 * (gY es2 e.1).2)))=H4 at s4 h4 ⊢;exists by show 3<=sizeLine;decide,fun t5 ht5=>⟨s2.trans (s3.trans (s4.trans (aA ht5 _))),⟨_,_,rfl⟩,?_⟩;have s5:=aA ht5 (.tup [x,.ref q,.ref r]);rw [aO he];refine bC.append (tw.mono fun _ _ z=>z.ts (.of (s3.trans (s4.trans s5)))) ⟨⟨t5,x,q,r,rfl,aB,hx.ts (.of (g.trans (s3.trans (s4.trans s5)))),(g.trans (s3.trans (s4.trans s5))) _ _ hq,s5 _ _ h4⟩,trivial⟩
 ·rintro zs σ H2 ⟨s2,_,tw⟩ l3 hl3;rw [l1,be] at tw;have s3:=aA hl3 (.lst zs);have h3:aJ H2 l3 (.lst zs) l3=some (.lst zs):=aB;have g:=sD.trans (s2.trans s3);replace tw:=tw.mono fun _ _ z=>zJ.ts (.of s3) z
  generalize aJ H2 l3 (.lst zs)=H3 at s3 h3 g tw ⊢;have zl:=tw.length;refine ⟨_,rfl,l3,rfl,⟨_,bK.of h3⟩,cR (K:=K) (a:=l3) (xs:=zs) (fun i ys σ H4=>H4=H3/\(∃ v,σ=[v])/\bC (zJ b es2 f H3) ys ((es1.take i).filter (abv es2 f)))
   (aH ∅) ⟨rfl,⟨_,rfl⟩,trivial⟩ (fun i ys σ H4 ⟨_,_,e⟩=>by
    rw [e.length];exact cy (de _ _) (by rw [bx];omega)) (by rintro i ys σ H4 _ ⟨e,_⟩;rw [e];exact bK.of h3) ?_ ?_⟩
  ·rintro i v ys σ H4 hv ⟨rfl,⟨v',rfl⟩,tw4⟩;obtain ⟨e,he,t,x,q,r,rfl,ht,hx,hq,hr4⟩:=tw.at hv;have me:=bq he;have lb:=bP8 A.of (A.o2.shOk e.1);have sb:=(A.o1.at me).1.b1;exists _,rfl,t,_,_,.ref r,rfl,rfl,aT.of ht,rfl,_,rfl,t,_,_,.ref q,rfl,rfl,aT.of ht,rfl,r,q,_,_,_,_,rfl,hr4,hq,lb.1,lb.2.1,sb.1,sb.2,_,rfl,?_;rw [aO he,fk]
   by_cases c:abv es2 f e=true
   ·refine dR c ⟨_,rfl,rfl,⟨_,rfl⟩,?_⟩;rw [fb c,eu];exact bC.append tw4 ⟨⟨t,x,q,r,rfl,ht,hx,hq,hr4⟩,trivial⟩
   ·refine bW c ⟨rfl,⟨_,rfl⟩,?_⟩;rw [dz c,eu,fw];exact tw4
  ·rintro ys σ H4 ⟨rfl,_,tw4⟩ l5 hl5;rw [zl,be] at tw4;exact k _ l5 ys (g.trans (aA hl5 _)) aB (tw4.mono fun _ _ z=>zJ.ts (.of (aA hl5 _)) z)
theorem bG6 (C_Come:Cl P w K mg base 4 spCome "come_to") (C_Minus:Cl P w K mg base 3 spMinus "minus") (C_Abv:Cl P w K mg base 4 spAbove "those_above"):gX P w K mg base "least_rest" "least_rest" bO5 5 ["one","other","factor"] spRest:=by
 refine jK ["one","other","factor"] fun H Q nd hr h=>?_
 obtain ⟨b,t1,t2,p,c1,c2,es1,es2,f,rfl,A,k⟩:=h;have hr4:bU 4 _:=hr.mono (by decide);exists _,(aG (aP (cP C_Come hr (aS (bJ ["answer","share","limit"] [none,none,none] (cH (cP C_Abv hr (aC (pv 0) (aC (pv 1) (aS (pv 2)))))) (fun _ _ _ _=>(kT K (n:=3) rfl (aL (cW 0) (aL (cW 1) (aL (cW 2) bE))))) (fun _ _ _ _=>cN) (fun _ _ _ _=>(cP C_Minus hr (aC (pv 1) (aS (pv 2)))))))))),?_;have m1:=A.o1.l2;have sf:=aR3 A.o1.c1 A.o1.c2 A.o1.sh A.o1.l2 A.o2 A.of;exists _,rfl,_,rfl,_,rfl,b,t1,t2,p,c1,c2,es1,es2,f,rfl,A,fun H1 l ws s1 hl tw=>?_;have fl:(es1.filter (abv es2 f)).length<=12:=cy (de _ _) m1;have wl:=tw.length;refine ⟨l,rfl,⟨_,bK.of hl⟩,cR (K:=K) (a:=l) (xs:=ws) (fun i zs σ H2=>aN H1 H2/\(∃ v1 v2 v3,σ=[v1,v2,v3])/\bC (FrR H2) zs (((es1.filter (abv es2 f)).take i).map fun e=>aQ0 e.2 (cU f (gY es2 e.1))))
  (aH ∅) ⟨aN.refl _,⟨_,_,_,rfl⟩,trivial⟩ (fun i zs σ H2 ⟨_,_,e⟩=>by
   rw [e.length,ae,bx];omega) (by rintro i zs σ H2 _ ⟨e,_⟩;exact bK.of (e _ _ hl)) ?_ ?_⟩
 ·rintro i v zs σ H2 hv ⟨s2,⟨v1,v2,v3,rfl⟩,tw2⟩;obtain ⟨e,he,t,x,q,r,rfl,ht,hx,hq,hr4⟩:=tw.at hv;obtain ⟨me,ab⟩:=br.mp (bq he);have lb:=bP8 A.of (A.o2.shOk e.1);have sb:=(A.o1.at me).1;have lt:(cU f (gY es2 e.1)).1 * e.2.2 < e.2.1 * (cU f (gY es2 e.1)).2:=cf ab;exists t,_,rfl,aT.of (s2 _ _ ht),rfl,_,_,rfl,_,_,rfl,_,_,rfl,rfl,?_;exists _,rfl,_,rfl,q,r,_,_,_,_,rfl,s2 _ _ hq,s2 _ _ hr4,sb.b1.1,sb.b1.2,lb.1,lb.2.1,sb.b,lb.2.2,qk lt,fun r5 hr5=>⟨s2.trans (aA hr5 _),⟨_,_,_,rfl⟩,?_⟩;rw [aO he,bp];exact bC.append (tw2.mono fun _ _ z=>FrR.ts (.of (aA hr5 _)) z) ⟨⟨r5,rfl,aB⟩,trivial⟩
 ·rintro zs σ H2 ⟨s2,_,tw2⟩ l3 hl3;rw [wl,be] at tw2;exists l3,zs,qT es2 f es1,rfl,aB,tw2.mono fun _ _ z=>FrR.ts (.of (aA hl3 _)) z,sf.1,fun H4 r s4 hr4=>?_;exact k _ r (s1.trans (s2.trans ((aA hl3 _).trans s4))) hr4
theorem bL5  : gX P w K mg base "_law_lowest" "_law_lowest" bM8 1 ["_law_top","_law_bottom"] spLow:=by
 refine jK ["_law_top","_law_bottom","_law_one","_law_other"] fun H Q nd hr h=>?_
 obtain ⟨a,b,rfl,ha,hb,hz,k⟩:=h;refine ⟨_,(aI (aF5 (i:=2) (j:=3) rfl nd rfl rfl (by decide) rfl rfl (aC (pv 0) (aS (pv 1))) rfl)
  (aI (jV km (iL lK (pv 3) aD)
  (aG (aF5 (i:=2) (j:=3) rfl nd rfl rfl (by decide) rfl rfl (aC (pv 3) (aS (aR jE (pv 2) (pv 3)))) rfl)))
  (aG (aP (aW (aC (aR oB (pv 0) (pv 2)) (aS (aR oB (pv 1) (pv 2))))))))),?_⟩
 have g0:0 < gI a b:=tD hb;have g1:gI a b < 2 ^ 200 * 2 ^ 200:=iu (bO7 hb) hz;exists _,rfl,_,rfl,_,_,rfl,?_;exists fun j σ H1=>H1=H/\∃ (x y:Int),σ=[some (.int a),some (.int b),some (.int x),some (.int y)]/\0<=x/\0<=y/\gI x y=gI a b/\j=y.toNat,⟨_,rfl,a,b,rfl,ha,∅,rfl,rfl⟩,?_;rintro j σ H1 ⟨rfl,x,y,rfl,hx,hy,hg,rfl⟩;exists _,rfl,_,_,rfl,rfl,_,rfl,?_;refine qV (fun c=>?_) (fun c=>?_)
 ·have yp:0 < y:=cf c;exists fun σ' H'=>H'=H1/\σ'=[some (.int a),some (.int b),some (.int y),some (.int (x % y))],fun σ' H' ⟨e1,e2⟩=>⟨(x % y).toNat,?_,e1,y,x % y,e2,hy,ny _ ∅,(aB8 hx yp).trans hg,rfl⟩,?_
  ·have:=qd x yp;have:=ny x (show y≠0 by omega);omega
  ·exact ⟨_,rfl,_,rfl,_,rfl,_,_,rfl,rfl,yp,_,_,rfl,rfl,rfl⟩
 ·have y0:y=0:=by
   have:¬ 0 < y:=fun z=>c (ar z)
   omega
  subst y0;rw [aL5 hx] at hg;subst hg;exact ⟨_,rfl,_,rfl,_,_,rfl,rfl,⟨g0,g1⟩,_,rfl,_,rfl,_,_,rfl,rfl,⟨g0,g1⟩,cT,fun p hp=>k p hp⟩
theorem bF4 (C_LLow:Cl P w K mg base 1 spLow "_law_lowest"):gX P w K mg base "_law_plus" "_law_plus" bO3 2 ["_law_one","_law_other"] spPlus:=by
 refine jK ["_law_one","_law_other"] fun H Q nd hr h=>?_
 obtain ⟨p,q,⟨a,b⟩,⟨c,d⟩,rfl,hp,hq,⟨ha,hb,b1⟩,⟨hc,hd,d1⟩,k⟩:=h;exists _,(aG (aP (cP C_LLow hr (aC (aR fH (aR bX (cQ aM (pv 0) aD) (cQ aM (pv 1) aD)) (aR bX (cQ aM (pv 1) aD) (cQ aM (pv 0) aD))) (aS (aR bX (cQ aM (pv 0) aD) (cQ aM (pv 1) aD))))))),?_;replace ha:jY a:=ha;replace hb:jY b:=hb;replace hc:jY c:=hc;replace hd:jY d:=hd;replace b1:1<=b:=b1;replace d1:1<=d:=d1;have m1:=gH ha.1 ha.2 hd.1 hd.2;have m0:=gH hc.1 hc.2 hb.1 hb.2;have m2:=gH hb.1 hb.2 hd.1 hd.2;have m3:1<=b * d:=by have:=mq (show 0 < b by omega) (show 0 < d by omega);omega
 exists _,rfl,p,_,_,_,rfl,rfl,aT.of hp,tO a b,_,rfl,q,_,_,_,rfl,rfl,aT.of hq,mS c d,_,_,rfl,rfl,⟨ha.below,hd.below⟩,?_;exists _,rfl,q,_,_,_,rfl,rfl,aT.of hq,tO c d,_,rfl,p,_,_,_,rfl,rfl,aT.of hp,mS a b,_,_,rfl,rfl,⟨hc.below,hb.below⟩,_,_,rfl,rfl,?_;exists _,rfl,p,_,_,_,rfl,rfl,aT.of hp,mS a b,_,rfl,q,_,_,_,rfl,rfl,aT.of hq,mS c d,_,_,rfl,rfl,⟨hb.below,hd.below⟩,?_;exact ⟨_,_,rfl,∅,m3,pk m2.2 (by decide),k⟩
theorem bI1 (C_LLow:Cl P w K mg base 1 spLow "_law_lowest"):gX P w K mg base "_law_times" "_law_times" bN8 2 ["_law_one","_law_other"] spTimes:=by
 refine jK ["_law_one","_law_other"] fun H Q nd hr h=>?_
 obtain ⟨p,q,a,b,c,d,rfl,hp,hq,ha,hb,hc,hd,b1,d1,k⟩:=h;exists _,(aG (aP (cP C_LLow hr (aC (aR bX (cQ aM (pv 0) aD) (cQ aM (pv 1) aD)) (aS (aR bX (cQ aM (pv 0) aD) (cQ aM (pv 1) aD))))))),?_;have m1:=gH ha.1 ha.2 hc.1 hc.2;have m2:=gH hb.1 hb.2 hd.1 hd.2;have m3:1<=b * d:=by have:=mq (show 0 < b by omega) (show 0 < d by omega);omega
 exists _,rfl,p,_,_,_,rfl,rfl,aT.of hp,tO a b,_,rfl,q,_,_,_,rfl,rfl,aT.of hq,tO c d,_,_,rfl,rfl,⟨ha.below,hc.below⟩,?_;exists _,rfl,p,_,_,_,rfl,rfl,aT.of hp,mS a b,_,rfl,q,_,_,_,rfl,rfl,aT.of hq,mS c d,_,_,rfl,rfl,⟨hb.below,hd.below⟩,?_;exact ⟨_,_,rfl,m1.1,m3,pk m2.2 (by decide),k⟩
theorem bY6  : gX P w K mg base "_law_below" "_law_below" cA0 1 ["_law_one","_law_other"] spLessF:=by
 refine jK ["_law_one","_law_other"] fun H Q nd hr h=>?_
 obtain ⟨p,q,a,b,c,d,rfl,hp,hq,ha,hb,hc,hd,k⟩:=h;exists _,(aG (aP (pec mW (aR bX (cQ aM (pv 0) aD) (cQ aM (pv 1) aD)) (aR bX (cQ aM (pv 1) aD) (cQ aM (pv 0) aD))))),?_;exists _,rfl,p,_,_,_,rfl,rfl,aT.of hp,tO _ _,_,rfl,q,_,_,_,rfl,rfl,aT.of hq,mS _ _,_,_,rfl,rfl,⟨ha.below,hd.below⟩,?_;exists _,rfl,q,_,_,_,rfl,rfl,aT.of hq,tO _ _,_,rfl,p,_,_,_,rfl,rfl,aT.of hp,mS _ _,_,_,rfl,rfl,⟨hc.below,hb.below⟩,?_;exact ⟨_,_,rfl,rfl,k⟩
theorem bK7 (C_Draw:Cl P w K mg base 1 spDraw "_law_draw") (m_range:mg "range"=none) (m_sorted:mg "sorted"=none) (m_tuple:mg "tuple"=none):gX P w K mg base "_law_pool" "_law_pool" bN2 2 ["_law_deal_here","_law_many"] spPool:=by
 refine jK ["_law_deal_here","_law_many","_law_kind","_law_wide","_law_start","_law_found","_law_k","_law_thing"] fun H Q nd hr h=>?_
 obtain ⟨d,l,m,rfl,D,m1,m12,k⟩:=h;have hr1:bU 1 _:=hr.mono (by decide);refine ⟨_,(gF 2 nd (cP C_Draw hr (aC (pv 0) (aS aD)))
  (aI (cE (iL mW (pv 2) aD) (gF 3 nd (cQ dU (fF (aC aD (aS (aR aC9 aD aD)))) (pv 2))
  (gF 4 nd (cP C_Draw hr (aC (pv 0) (aS (aR lS aD (pv 3)))))
  (aG (aP (bJ ["_law_k","_law_start","_law_deal_here","_law_wide"] [none,some 4,some 0,some 3] (jN (by rfl) m_range (aS (pv 1))) (fun _ _ _ _=>(cW 0)) (fun _ _ _ _=>cN) (fun _ _ _ _=>(aR fH (aR pF (aR lS (pv 3) (pv 0)) (pv 1)) (cP C_Draw hr (aC (pv 2) (aS (pv 3))))))))))) aU)
  (gF 5 nd (fF gO)
  (aI (wK (jN (by rfl) m_range (aS (pv 1))) (cW 6 nd)
  (gF 7 nd (vH fK m_tuple gy (aS (bJ ["_law_j","_law_deal_here"] [none,some 0] (jN (by rfl) m_range (aS (cP C_Draw hr (aC (pv 0) (aS aD))))) (fun _ _ _ _=>(cW 0)) (fun _ _ _ _=>cN) (fun _ _ _ _=>(cP C_Draw hr (aC (pv 1) (aS aD)))))))
  (aI (oH (cE (iL (bR9 hr1) (pv 7) (pv 5)) (aG (psz 7 nd (aR aM7 (pv 7) (aW (aS (aR fH aD (pv 6))))))) aU))
  (aG (hX (qL gc jh ji iG (pv 5) (aS (pv 7))))))))
  (aG (aP (pP (aH0 hr1) m_sorted PyProof.Rows.boot_sorted (aS (pv 5))))))))),?_⟩
 exists _,rfl,d,l,3,rfl,D,by decide,by decide,fun kn H1 n0 n1 D1 o1=>?_;exists _,rfl,_,_,rfl,rfl,_,rfl,?_
 by_cases c:kn < 2
 ·refine dR (ar c) ?_;exists _,_,rfl,rfl,⟨by decide,by decide,by decide⟩,cT,fun l0 hl0=>?_;obtain ⟨wd,ha,w1,w2⟩:∃ wd,yJ [V.int 7,V.int (10 ^ (6:Int).toNat)] kn=some (.int wd)/\1<=wd/\wd<=1000000:=by
   have:kn=0\/kn=1:=∅
   rcases this with rfl | rfl
   ·exact ⟨7,rfl,by decide,by decide⟩
   ·exact ⟨10 ^ (6:Int).toNat,rfl,by decide,by decide⟩
  exists _,rfl,l0,_,_,.int wd,rfl,rfl,bK.of aB,ha,?_;have s2:=aA hl0 (.lst [V.int 7,V.int (10 ^ (6:Int).toNat)]);generalize aJ H1 l0 (.lst [V.int 7,V.int (10 ^ (6:Int).toNat)])=H2 at s2 ⊢;exists _,rfl,_,rfl,_,_,rfl,rfl,.inl ⟨by decide,by decide⟩,d,l,5 * wd,rfl,D1.same s2,∅,∅,fun st H3 st0 st1 D3 o3=>?_;have oo:dM d l H H3:=o1.trans ((dM.of s2).trans o3);refine ⟨_,rfl,m,rfl,∅,∅,mY (n:=m.toNat) (fun i ys σ H4=>eZ H4 d l/\dM d l H H4/\(∃ v,σ=[v,some (.int st),some (.ref d),some (.int wd)])/\∃ ns:List Int,ys=ns.map V.int/\ns.length=i/\ns.Pairwise (· < ·)/\∀ x∈ns,-5000000<=x/\x < wd * (i:Int) - st)
   (aH ∅) ⟨D3,oo,⟨_,rfl⟩,[],rfl,rfl,xo,fun _ z=>nomatch z⟩ (by rintro i ys σ H4 ⟨_,_,_,zs,e,e2,_⟩;rw [e,ae];omega) ?_ ?_⟩
  ·rintro i ys σ H4 hi ⟨D4,o4,⟨v,rfl⟩,ns,rfl,hl,pw,bd⟩;have wi:0<=wd * (i:Int):=dt ∅ ∅;have e1:wd * (0+(i:Int))=wd * (i:Int):=by rw [jw]
   have e2:wd * ((i+1:Nat):Int)=wd * (i:Int)+wd:=by rw [za,Int.mul_add];simp
   exists _,rfl,_,rfl,_,_,rfl,rfl,.inl ⟨∅,∅⟩,_,rfl,_,_,rfl,rfl,_,rfl,_,rfl,d,l,wd,rfl,D4,∅,∅,fun r H5 r0 r1 D5 o5=>⟨_,_,rfl,rfl,D5,o4.trans o5,⟨_,rfl⟩,ns++[wd * (0+(i:Int)) - st+r],by rw [bp];rfl,by rw [cq,hl];rfl,?_,fun x hx=>?_⟩
   ·rw [List.pairwise_append];exists pw,yy _ _,fun x hx y hy=>?_;have:y=wd * (0+(i:Int)) - st+r:=by simpa using hy
    have:=(bd x hx).2;omega
   ·rcases cj.mp hx with q | q
    ·have:=bd x q;omega
    ·have:x=wd * (0+(i:Int)) - st+r:=by simpa using q
     omega
  ·rintro ys σ H4 ⟨D4,o4,_,ns,rfl,hl,pw,bd⟩ l5 hl5;have s5:=aA hl5 (.lst (ns.map V.int));have wm:wd * (m.toNat:Int)<=1000000 * 12:=wt w2 ∅ ∅ (by decide);refine k false _ l5 _ (ns.map fun n=>[n]) ⟨aB,tH ns,?_,fun a ha=>?_,yS (pw.imp fun q=>qk q) (pw.imp fun q=>Int.ne_of_lt q)⟩ (by rw [ae];exact hl) (iE D4 o4 hl5) (D4.same s5) (o4.trans (dM.of s5))
   ·have np:∀ x y:Int,x < y->([x]:List Int)≠[y]:=fun x y h z=>by
     have:x=y:=by simpa using z
     omega
    exact List.Pairwise.map (S:=fun a b:List Int=>a≠b) (fun n=>[n]) np pw
   ·obtain ⟨n,hn,rfl⟩:=am.mp ha;have:=bd n hn;exists by simp,fun x hx=>?_;have:x=n:=by simpa using hx
    subst this;exact ⟨∅,∅⟩
 ·refine bW (by simpa using c) ?_;exists df _,fun lf hlf=>?_;have DL0:=dW.new D1 hlf;have hlfH:H lf=none:=iE D1 o1 hlf;have oo:dM d l H (aJ H1 lf (.lst [])):=o1.trans (dM.of (aA hlf _));generalize aJ H1 lf (.lst [])=H2 at DL0 oo ⊢;refine ⟨_,rfl,m,rfl,∅,∅,pC (n:=m.toNat) (fun i σ H2=>∃ (us:List V) (as:List (List Int)) (v6 v7:Option V),σ=[some (.ref d),some (.int m),some (.int kn),none,none,some (.ref lf),v6,v7]/\dW H2 d l lf us/\dM d l H H2/\bC (cV true H2) us as/\as.length=i/\as.Nodup/\∀ a∈as,a.length<=4/\∀ n∈a,0<=n/\n < 3+(i:Int))
   ⟨[],[],_,_,rfl,DL0,oo,trivial,rfl,jj,fun _ z=>nomatch z⟩ ?_ ?_⟩
  ·rintro i σ H2 hi ⟨us,as,v6,v7,rfl,DL,o2,tw,al,nd,ok⟩;refine ⟨_,rfl,d,l,4,rfl,DL.deal,by decide,by decide,fun jm H3 j0 j1 D3 o3=>⟨jm,rfl,∅,∅,mY (n:=jm.toNat) (fun j ys σ H4=>eZ H4 d l/\dM d l H2 H4/\(∃ v,σ=[v,some (.ref d)])/\∃ ns:List Int,ys=ns.map V.int/\ns.length=j/\∀ x∈ns,0<=x/\x < 3)
    (aH ∅) ⟨D3,o3,⟨_,rfl⟩,[],rfl,rfl,fun _ z=>nomatch z⟩ (by rintro i ys σ H4 ⟨_,_,_,zs,e,e2,_⟩;rw [e,ae];omega) ?_ ?_⟩⟩
   ·rintro j ys σ H4 hj ⟨D4,o4,⟨v,rfl⟩,ns,rfl,hl,bd⟩;exists _,rfl,d,l,3,rfl,D4,by decide,by decide,fun r H5 r0 r1 D5 o5=>⟨D5,o4.trans o5,⟨_,rfl⟩,ns++[r],by rw [bp];rfl,by rw [cq,hl];rfl,fun x hx=>?_⟩;rcases cj.mp hx with q | q
    ·exact bd x q
    ·have:x=r:=by simpa using q
     omega
   ·rintro ys σ H4 ⟨D4,o4,_,ns,rfl,hl,bd⟩ l5 hl5;exists l5,_,rfl,.inl ⟨bK.of aB,fun t8 ht8=>?_⟩;have s6:=(aA hl5 (.lst (ns.map V.int))).trans (aA ht8 (.tup (ns.map V.int)));have h8:aJ (aJ H4 l5 (.lst (ns.map V.int))) t8 (.tup (ns.map V.int)) t8=some (.tup (ns.map V.int)):=aB;generalize aJ (aJ H4 l5 (.lst (ns.map V.int))) t8 (.tup (ns.map V.int))=H6 at s6 h8 ⊢;have DL8:=(DL.out D4 o4).same s6;have o8:=o2.trans (o4.trans (dM.of s6));have tw8:=tw.mono fun _ _ z=>cV.ts ((TS.out DL.deal o4).trans (.of s6)) z
    have nl:ns.length<=3:=∅
    exists fun σ' G=>∃ (t:Addr) (ns:List Int) (v6:Option V),σ'=[some (.ref d),some (.int m),some (.int kn),none,none,some (.ref lf),v6,some (.ref t)]/\dW G d l lf us/\dM d l H G/\bC (cV true G) us as/\G t=some (.tup (ns.map V.int))/\ns∉as/\ns.length<=4/\∀ n∈ns,0<=n/\n < 3+((i+1:Nat):Int),?_,?_
    ·exists _,rfl,_,rfl,as.map (cB true),cB true ns,kZ DL8.lst tw8,iY (b:=true) ⟨t8,rfl,h8⟩,iN true as,aB5 ns,aN8 ns as,_,rfl,?_
     by_cases c2:ns∈as
     ·refine dR (ar ((tR ns as).mpr c2)) ?_;exists _,rfl,_,rfl,_,_,rfl,rfl,aV5,fun t7 ht7=>?_;obtain ⟨H7,e0,s7,h7⟩:=lay ht7 (.tup [.int (3+(0+(i:Int)))]);rw [e0];clear e0;replace DL8:=DL8.same s7;replace o8:=o8.trans (dM.of s7);replace tw8:=tw8.mono fun _ _ z=>cV.ts (.of s7) z
      have na:ns++[3+(0+(i:Int))]∉as:=fun z=>by
       have:=((ok _ z).2 (3+(0+(i:Int))) (dh _ bj)).2;omega
      have okn:(ns++[3+(0+(i:Int))]).length<=4/\∀ n∈ns++[3+(0+(i:Int))],0<=n/\n < 3+((i+1:Nat):Int):=by
       exists by rw [cq];show ns.length+1<=4;omega,fun n hn=>?_;rcases cj.mp hn with q | q
       ·have:=bd n q;omega
       ·have:n=3+(0+(i:Int)):=by simpa using q
        omega
      exists t8,t7,ns.map V.int,_,rfl,rfl,aT.of (s7 _ _ h8),aT.of h7,by simp,by show (ns.map V.int).length+1<=sizeLine;rw [ae];exact iz (aH ∅),fun z=>?_,fun z t9 ht9=>?_
      ·have nn:ns=[]:=by cases ns with | nil=>rfl | cons _ _=>cases z
       exact ⟨t7,_,_,rfl,DL8,o8,tw8,by rw [nn];exact h7,na,okn⟩
      ·have s9:=aA ht9 (.tup (ns.map V.int++[.int (3+(0+(i:Int)))]));exact ⟨t9,_,_,rfl,DL8.same s9,o8.trans (dM.of s9),tw8.mono fun _ _ z=>cV.ts (.of s9) z,by rw [aB,bp];rfl,na,okn⟩
     ·exact bW (by simp only [decide_eq_true_eq];exact fun z=>c2 ((tR ns as).mp z)) ⟨t8,ns,_,rfl,DL8,o8,tw8,h8,c2,∅,fun n hn=>by have:=bd n hn;omega⟩
    rintro σ' H9 ⟨t8,ns,v6,rfl,DL8,o8,tw8,h8,na,okn⟩;exists _,rfl,.inl ⟨rfl,_,bK.of DL8.lst⟩,_,rfl,lf,us,_,rfl,rfl,DL8.lst,aH (by rw [tw8.length];omega),?_;exists us++[.ref t8],as++[ns],_,_,rfl,DL8.app _,jA o8 hlfH,bC.append (tw8.mono fun _ _ z=>z.ts (TS.lst DL8.lst)) ⟨⟨t8,rfl,TS.lst DL8.lst _ _ h8⟩,trivial⟩,by rw [cq,al];rfl,gK nd na,fun a ha=>?_;rcases cj.mp ha with q | q
    ·exact ⟨(ok a q).1,fun n hn=>by have:=(ok a q).2 n hn;omega⟩
    ·rw [ck.mp q];exact okn
  ·rintro σ H2 ⟨us,as,v6,v7,rfl,DL,o2,tw,al,nd,ok⟩;have ul:=tw.length;exists _,rfl,cC6 DL.lst nd ∅ tw fun us' as' l3 pa up hl3 tw'=>?_
   ·have s3:=aA hl3 (.lst us');refine k true _ l3 us' as' ⟨aB,tw',pa.nodup_iff.mpr nd,fun a ha=>?_,up⟩ (pa.length_eq.trans al) (iE DL.deal o2 hl3) (DL.deal.same s3) (o2.trans (dM.of s3));have:=ok a (pa.mem_iff.mp ha);exact ⟨∅,fun n hn=>by have:=this.2 n hn;exact ⟨∅,∅⟩⟩
theorem bU1 (C_LLow:Cl P w K mg base 1 spLow "_law_lowest") (m_sum:mg "sum"=none) (m_tuple:mg "tuple"=none) (m_zip:mg "zip"=none):gX P w K mg base "_law_shares" "_law_shares" cB6 2 ["_law_answers","_law_weights"] spShares:=by
 refine jK ["_law_answers","_law_weights","_law_come"] fun H Q nd hr h=>?_
 obtain ⟨b,p,q,us,as,ws,rfl,Pl,hq,wl,w1,w12,wb,k⟩:=h;refine ⟨_,(gF 2 nd (pP aY1 m_sum aAn (aS (pv 1)))
  (aG (aP (vH fK m_tuple gy (aS (bJ ["_law_answer","_law_heavy","_law_come"] [none,none,some 2] (bF3 (by rfl) m_zip (aC (pv 0) (aS (pv 1)))) (fun _ _ _ _=>(kT K (n:=2) rfl (aL (cW 0) (aL (cW 1) bE)))) (fun _ _ _ _=>cN) (fun _ _ _ _=>(aW (aC (pv 0) (aS (cP C_LLow hr (aC (pv 1) (aS (pv 2)))))))))))))),?_⟩
 have zo:=bQ5 Pl.nd Pl.up Pl.ok wl w1 w12 wb;have ul:=Pl.tw.length;have sb:=aD1 wb;have ln:(uK ws).length=as.length:=by unfold uK;rw [ae];exact wl
 exists _,rfl,q,ws,rfl,bK.of hq,?_;refine ⟨_,rfl,_,rfl,p,q,rfl,⟨_,bK.of Pl.h⟩,⟨_,bK.of hq⟩,aO5 (K:=K) (a:=p) (b:=q) (xs:=us) (ys:=ws.map V.int) (fun i zs σ H2=>aN H H2/\(∃ v1 v2,σ=[v1,v2,some (.int ws.sum)])/\bC (nZ b H2) zs ((as.zip (uK ws)).take i))
  (aH ∅) (by rw [ae];omega) ⟨aN.refl _,⟨_,_,rfl⟩,trivial⟩ (by rintro i zs σ H2 ⟨_,_,e⟩;rw [e.length,bx];omega) (by rintro i zs σ H2 _ ⟨e,_⟩;exact ⟨bK.of (e _ _ Pl.h),bK.of (e _ _ hq)⟩) ?_ ?_⟩
 ·rintro i x y zs σ H2 t hx hy ⟨s2,⟨v1,v2,rfl⟩,tw⟩ ht;obtain ⟨a,ha,ax⟩:=Pl.tw.at hx;obtain ⟨w,rfl,hw⟩:=rX hy;have s3:=s2.trans (aA ht (.tup [x,.int w]));have h3:aJ H2 t (.tup [x,.int w]) t=some (.tup [x,.int w]):=aB;replace tw:=tw.mono fun _ _ z=>nZ.ts (.of (aA ht (.tup [x,.int w]))) z
  generalize aJ H2 t (.tup [x,.int w])=H3 at s3 h3 tw ⊢;have wm:=wb w (bq hw);exists t,_,rfl,aT.of h3,rfl,_,_,rfl,_,_,rfl,rfl,?_;exists _,rfl,_,rfl,_,rfl,w,ws.sum,rfl,∅,∅,∅,fun r hr'=>?_;have s4:=aA hr' (.tup (eJ w ws.sum));have h4:bP (aJ H3 r (.tup (eJ w ws.sum))) r (aK w ws.sum).1 (aK w ws.sum).2:=aB;generalize aJ H3 r (.tup (eJ w ws.sum))=H4 at s4 h4 ⊢;exists cT,fun t5 ht5=>⟨s3.trans (s4.trans (aA ht5 _)),⟨_,_,rfl⟩,?_⟩;have s5:=aA ht5 (.tup [x,.ref r]);have hz:(as.zip (uK ws))[i]?=some (a,aK w ws.sum):=(xz (z:=(a,aK w ws.sum))).mpr ⟨ha,by unfold uK;rw [cp,hw];rfl⟩;rw [aO hz];exact bC.append (tw.mono fun _ _ z=>nZ.ts (.of (s4.trans s5)) z) ⟨⟨t5,x,r,rfl,aB,ax.ts (.of (s3.trans (s4.trans s5))),s5 _ _ h4⟩,trivial⟩
 ·rintro zs σ H2 ⟨s2,_,tw⟩ l3 hl3;have zl:(as.zip (uK ws)).length=us.length:=by rw [List.length_zip];omega
  rw [<- zl,be] at tw;have s3:=aA hl3 (.lst zs);exists l3,zs,rfl,.inl ⟨bK.of aB,fun t4 ht4=>?_⟩;have s4:=aA ht4 (.tup zs) (H:=aJ H2 l3 (.lst zs));exact k _ t4 _ _ (s2.trans (s3.trans s4)) ⟨zs,aB,tw.mono fun _ _ z=>nZ.ts (.of (s3.trans s4)) z⟩ zo
theorem bQ3 (C_Draw:Cl P w K mg base 1 spDraw "_law_draw") (C_Shs:Cl P w K mg base 2 spShares "_law_shares") (m_range:mg "range"=none) (m_list:mg "list"=none) (m_len:mg "len"=none):gX P w K mg base "_law_two" "_law_two" cA2 3 ["_law_deal_here","_law_pool_here","_law_wide"] spTwo:=by
 refine jK ["_law_deal_here","_law_pool_here","_law_wide","_law_tables","_law_turn","_law_answers","_law_way","_law_weights","_law_at"] fun H Q nd hr h=>?_
 obtain ⟨d,l,r,wide,b,us,as,rfl,D,Pl,nl,a1,a12,w1,w2,k⟩:=h;have hr1:bU 1 _:=hr.mono (by decide);refine ⟨_,(gF 3 nd (fF gO)
  (aI (wK (jN (by rfl) m_range (aS aD)) (cW 4 nd)
  (aI (iB ["_law_answer","_law_deal_here"] [none,some 0] (i:=5) nd rfl (jg rfl) (cH (pv 1)) (fun _ _ _ _=>(cW 0)) (fun _ _ _ _=>(gM (iL lK (cP C_Draw hr (aC (pv 1) (aS aD))) aD))) (fun _ _ _ _=>(pv 0)))
  (aI (oH (cE (iL (aH1 hr1) (pv 5) (fF gO)) (aG (psz 5 nd (fF (aS (cQ dU (pv 1) (cP C_Draw hr (aC (pv 0) (aS (pP cD m_len jb (aS (pv 1))))))))))) aU))
  (aG (hX (qL gc jh ji iG (pv 3) (aS (aW (aC (pv 5) (aS (bJ ["_law_answer","_law_deal_here","_law_wide"] [none,some 0,some 2] (cH (pv 5)) (fun _ _ _ _=>(cW 0)) (fun _ _ _ _=>cN) (fun _ _ _ _=>(aR fH aD (cP C_Draw hr (aC (pv 1) (aS (pv 2)))))))))))))))))
  (gF 6 nd (cP C_Draw hr (aC (pv 0) (aS aD)))
  (aI (oH (cE (iL mW (pv 6) aD) (aI (aF5 (i:=5) (j:=7) rfl nd rfl rfl (by decide) rfl rfl (aC (vH hZ m_list jv (aS (cQ aM (cQ dU (pv 3) aD) aD))) (aS (vH hZ m_list jv (aS (cQ aM (cQ dU (pv 3) aD) aD))))) rfl)
  (gF 8 nd (cP C_Draw hr (aC (pv 0) (aS (pP cD m_len jb (aS (pv 5))))))
  (aI (oH (cE (iL iR (pv 6) aD) (aG (qH (aR fH aD (cP C_Draw hr (aC (pv 0) (aS (pv 2))))) (bB6 (pv 7) (pv 8) yQ))) aU))
  (aI (oH (cE (PW.pt (pW (iL iR (pv 6) aD) (mM (iL lK (pP cD m_len jb (aS (pv 5))) aD)))) (aI (hX (qL gc ur ut zA (pv 5) (aS (pv 8))))
  (aG (hX (qL gc ur ut zA (pv 7) (aS (pv 8)))))) aU))
  (aG (qH (aW (aC (pv 5) (aS (pv 7)))) (bB6 (pv 3) aD yQ))))))) aU))
  (aI (iB ["_law_answers","_law_weights"] [none,none] (i:=3) nd rfl (jg rfl) (cH (pv 3)) (fun _ _ _ _=>(kT K (n:=2) rfl (aL (cW 0) (aL (cW 1) bE)))) (fun _ _ _ _=>cN) (fun _ _ _ _=>(cP C_Shs hr (aC (pv 0) (aS (pv 1))))))
  (aG (aP (cQ dU (fF (aC (pv 3) (aS (fF (aC (cQ dU (pv 3) aD) (aS (cQ dU (pv 3) aD))))))) (cP C_Draw hr (aC (pv 0) (aS aD))))))))))),?_⟩
 have pl0:=Pl.tw.length;exists df _,fun lf hlf=>?_;have DL0:=dW.new D hlf;have hlfH:=hlf;have nlf:r≠lf:=aF Pl.h hlf;have oo:dM d l H (aJ H lf (.lst [])):=dM.of (aA hlf _);generalize aJ H lf (.lst [])=H1 at DL0 oo ⊢;refine ⟨2,rfl,by decide,by decide,pC (n:=2) (fun i σ H2=>∃ (vs:List V) (v4 v5:Option V),σ=[some (.ref d),some (.ref r),some (.int wide),some (.ref lf),v4,v5,none,none,none]/\dW H2 d l lf vs/\dM d l H H2/\vs.length=i/\∀ v∈vs,dQ b H2 [l,lf] v)
  ⟨[],_,_,rfl,DL0,oo,rfl,fun _ z=>nomatch z⟩ ?_ ?_⟩
 ·rintro i σ H2 hi ⟨vs,v4,v5,rfl,DL,o2,vl,PV⟩;have P2:=Pl.out D nl o2;refine ⟨_,rfl,r,rfl,⟨_,bK.of P2.h⟩,cR (K:=K) (a:=r) (xs:=us) (fun j zs σ H4=>eZ H4 d l/\dM d l H2 H4/\(∃ v,σ=[v,some (.ref d)])/\∃ bs,bC (cV b H4) zs bs/\bs.Sublist (as.take j))
   (aH ∅) ⟨DL.deal,dM.refl _,⟨_,rfl⟩,[],trivial,List.Sublist.refl _⟩ (fun j zs σ H4 ⟨_,_,_,bs,e,e2⟩=>by
    have:=e2.length_le;rw [bx] at this;rw [e.length];omega) (by rintro j zs σ H4 _ ⟨D4,o4,_⟩;exact bK.of (P2.out DL.deal nl o4).h) ?_ ?_⟩
  ·rintro j v zs σ H4 hv ⟨D4,o4,⟨v',rfl⟩,bs,twb,sl⟩;obtain ⟨a,ha,av⟩:=P2.tw.at hv;exists _,rfl,d,l,4,rfl,D4,by decide,by decide,fun x H5 x0 x1 D5 o5=>⟨_,_,rfl,rfl,_,rfl,?_⟩;rw [aO ha]
   by_cases c:0 < x
   ·refine dR (ar c) ⟨_,rfl,D5,o4.trans o5,⟨_,rfl⟩,bs++[a],?_,sl.append (List.Sublist.refl _)⟩;exact bC.append (twb.mono fun _ _ z=>z.ts (TS.out D4 o5)) ⟨av.ts (TS.out DL.deal (o4.trans o5)),trivial⟩
   ·exact bW (by simpa using c) ⟨D5,o4.trans o5,⟨_,rfl⟩,bs,twb.mono fun _ _ z=>z.ts (TS.out D4 o5),sl.trans (List.sublist_append_left _ _)⟩
  ·rintro zs σ H4 ⟨D4,o4,_,bs,twb,sl⟩ la hla;rw [pl0,be] at sl;have n4:=fI D4 hla;have n4f:la≠lf:=(aF (DL.out D4 o4).lst hla).symm;obtain ⟨H5,e0,s5,h5⟩:=lay hla (.lst zs);rw [e0];clear e0;exists fun σ' G=>∃ (la:Addr) (zs:List V) (bs:List (List Int)) (v4:Option V),σ'=[some (.ref d),some (.ref r),some (.int wide),some (.ref lf),v4,some (.ref la),none,none,none]/\iZ b G la zs bs/\la≠l/\la≠lf/\1<=bs.length/\bs.length<=12/\dW G d l lf vs/\dM d l H G/\∀ v∈vs,dQ b G [l,lf] v,?_,?_
   ·exists _,rfl,df _,fun l6 hl6=>?_;obtain ⟨H6,e0,s6,h6⟩:=lay hl6 (.lst []);rw [e0];clear e0;have tb6:=twb.mono fun _ _ z=>cV.ts (.of (s5.trans s6)) z
    have D6:=D4.same (s5.trans s6);have o6:=o4.trans (dM.of (s5.trans s6));exists .list (bs.map (cB b)),.list [],kZ (s6 _ _ h5) tb6,⟨l6,[],rfl,bK.of h6,rfl⟩,iN b bs,nB,pJ,_,rfl,?_
    by_cases c:bs=[]
    ·refine dR (by show Spec.same _ _=true;rw [lF];exact ar (by rw [c];rfl)) ?_;have P6:=P2.out DL.deal nl o6;exists _,rfl,_,rfl,_,rfl,r,us,rfl,.inl (bK.of P6.h),d,l,us.length,rfl,D6,∅,∅,fun x H7 x0 x1 D7 o7=>?_;have P7':=P6.out D6 nl o7;have xl:x.toNat < us.length:=∅
     obtain ⟨a,ha,av⟩:=P7'.tw.at (ak xl);exists r,us,_,us[x.toNat],rfl,rfl,bK.of P7'.h,(by have h:=jB (ak xl);rwa [show ((x.toNat:Nat):Int)=x by omega] at h),aV5,fun la hla=>?_;have s8:=aA hla (.lst [us[x.toNat]]);have oo8:=o6.trans (o7.trans (dM.of s8));exact ⟨la,_,[a],_,rfl,⟨aB,⟨av.ts (.of s8),trivial⟩,by simp,fun y hy=>by rw [List.mem_singleton.mp hy];exact Pl.ok _ (bq ha),yy _ _⟩,(fI D7 hla).2,(aF (DL.out D7 (o6.trans o7)).lst hla).symm,by simp,by simp,DL.out (D7.same s8) oo8,o2.trans oo8,fun v hv=>(PV v hv).out DL.deal (by simp) oo8⟩
    ·have b2:=sl.length_le;exact bW (by show ¬ Spec.same _ _=true;rw [lF];simp [c]) ⟨la,zs,bs,_,rfl,⟨s6 _ _ h5,tb6,Pl.nd.sublist sl,fun y hy=>Pl.ok _ (sl.subset hy),uw sl Pl.up⟩,n4.2,n4f,by cases bs with | nil=>exact absurd rfl c | cons _ _=>simp,∅,DL.out D6 o6,o2.trans o6,fun v hv=>(PV v hv).out DL.deal (by simp) o6⟩
   ·rintro σ' H7 ⟨la,zs,bs,v4,rfl,P7,nal,naf,bl1,bl2,DL7,o7,PV7⟩;have zl7:=P7.tw.length;refine ⟨_,rfl,.inl ⟨rfl,_,bK.of DL7.lst⟩,_,rfl,_,rfl,la,rfl,⟨_,bK.of P7.h⟩,cR (K:=K) (a:=la) (xs:=zs) (fun j ys σ H8=>eZ H8 d l/\dM d l H7 H8/\(∃ v,σ=[v,some (.ref d),some (.int wide)])/\∃ ws:List Int,ys=ws.map V.int/\ws.length=j/\∀ w∈ws,1<=w/\w<=10 ^ 10)
     (aH ∅) ⟨DL7.deal,dM.refl _,⟨_,rfl⟩,[],rfl,rfl,fun _ z=>nomatch z⟩ (by rintro j ys σ H8 ⟨_,_,_,ws,e,e2,_⟩;rw [e,ae];omega) (by rintro j ys σ H8 _ ⟨_,o8,_⟩;exact bK.of (P7.out DL7.deal nal o8).h) ?_ ?_⟩
    ·rintro j v ys σ H8 hv ⟨D8,o8,⟨v',rfl⟩,ws,rfl,hl,hw⟩;exists _,rfl,_,rfl,d,l,wide,rfl,D8,∅,∅,fun x H9 x0 x1 D9 o9=>⟨_,_,rfl,rfl,D9,o8.trans o9,⟨_,rfl⟩,ws++[1+x],by rw [bp];rfl,by rw [cq,hl];rfl,fun w hw'=>?_⟩;rcases cj.mp hw' with q | q
     ·exact hw w q
     ·have:w=1+x:=by simpa using q
      omega
    ·rintro ys σ H8 ⟨D8,o8,_,ws,rfl,hl,hw⟩ lw hlw;have P8:=P7.out DL7.deal nal o8;have DL8:=DL7.out D8 o8;have nw:=fI D8 hlw;have nw2:lw≠lf:=(aF DL8.lst hlw).symm;obtain ⟨H9,e0,s9,h9⟩:=lay hlw (.lst (ws.map V.int));rw [e0];clear e0;exists cT,fun t ht=>?_;have s10:=aA ht (.tup [.ref la,.ref lw]);have P10:pZ b (aJ H9 t (.tup [.ref la,.ref lw])) [l,lf] t la lw zs bs ws:=⟨aB,P8.same (s9.trans s10),s10 _ _ h9,∅,∅,∅,hw,by simp [nal,naf],by simp [nw.2,nw2]⟩
     generalize aJ H9 t (.tup [.ref la,.ref lw])=H10 at s10 P10 ⊢;have DL10:=DL8.same (s9.trans s10);have o10:=o7.trans (o8.trans (dM.of (s9.trans s10)));exists lf,vs,_,rfl,rfl,DL10.lst,aH ∅,?_;exists vs++[.ref t],_,_,rfl,DL10.app _,jA o10 hlfH,by rw [cq,vl];rfl,fun v hv=>?_;rcases cj.mp hv with q | q
     ·exact (((PV7 v q).out DL7.deal (by simp) o8).same (s9.trans s10)).lst (by simp) DL10.lst
     ·have q:v= .ref t:=by simpa using q
      rw [q];exact dQ.lst ⟨t,la,lw,_,_,ws,rfl,P10⟩ (by simp) DL10.lst
 ·rintro σ H2 ⟨vs,v4,v5,rfl,DL,o2,vl,PV⟩;obtain ⟨p1,p2,rfl⟩:=cD2 vl;exists _,rfl,d,l,6,rfl,DL.deal,by decide,by decide,fun wy H3 y0 y1 D3 o3=>?_;have DL3:=DL.out D3 o3;have oH3:=o2.trans o3;have PV3:∀ v∈[p1,p2],dQ b H3 [l,lf] v:=fun v hv=>(PV v hv).out DL.deal (by simp) o3
  exists fun σ' G=>∃ (p1 p2:V) (v4 v5 v7 v8:Option V),σ'=[some (.ref d),some (.ref r),some (.int wide),some (.ref lf),v4,v5,some (.int wy),v7,v8]/\dW G d l lf [p1,p2]/\dM d l H G/\∀ v∈[p1,p2],dQ b G [l,lf] v,?_,?_
  ·exists _,rfl,_,_,rfl,rfl,_,rfl,?_
   by_cases c:wy < 3
   ·refine dR (ar c) ?_;obtain ⟨t1,pa,pw,us1,as1,ws1,rfl,A1⟩:=PV3 p1 (by simp);exists _,rfl,lf,_,_,.ref t1,rfl,rfl,bK.of DL3.lst,rfl,t1,_,_,.ref pa,rfl,rfl,aT.of A1.h,rfl,pa,us1,rfl,.inl (bK.of A1.pl.h),fun la hla=>?_;have na0:=fI D3 hla;have na1:la≠lf:=(aF DL3.lst hla).symm;obtain ⟨H4,e0,s4,h4⟩:=lay hla (.lst us1);rw [e0];clear e0;exists _,rfl,lf,_,_,.ref t1,rfl,rfl,bK.of (s4 _ _ DL3.lst),rfl,t1,_,_,.ref pw,rfl,rfl,aT.of (s4 _ _ A1.h),rfl,pw,_,rfl,.inl (bK.of (s4 _ _ A1.hw)),fun lw hlw=>⟨_,_,rfl,?_⟩;have nw0:=fI (D3.same s4) hlw;have nw1:lw≠lf:=(aF (s4 _ _ DL3.lst) hlw).symm;have nwa:lw≠la:=(aF h4 hlw).symm;have s5:=aA hlw (.lst (ws1.map V.int));have h5:aJ H4 lw (.lst (ws1.map V.int)) lw=some (.lst (ws1.map V.int)):=aB;have PV5:∀ v∈[V.ref t1,p2],dQ b (aJ H4 lw (.lst (ws1.map V.int))) [lw,la,l,lf] v:=fun v hv=>(((((PV3 v hv).more hla).same s4).more hlw).same s5)
    generalize aJ H4 lw (.lst (ws1.map V.int))=H5 at s5 h5 PV5 ⊢;have u1:=A1.pl.tw.length;have q1:=A1.wl;have q2:=A1.w1;have q3:=A1.w12;have D5:=D3.same (s4.trans s5);exists _,rfl,_,rfl,la,us1,rfl,.inl (bK.of (s5 _ _ h4)),d,l,us1.length,rfl,D5,∅,∅,fun at' H6 a0 a1 D6 o6=>?_;have PV6:∀ v∈[V.ref t1,p2],dQ b H6 [lw,la,l,lf] v:=fun v hv=>(PV5 v hv).out D5 (by simp) o6
    have DL6:=(DL3.same (s4.trans s5)).out D6 o6;have oH6:=oH3.trans ((dM.of (s4.trans s5)).trans o6);have h6a:=o6 _ _ (s5 _ _ h4) na0.1 na0.2;have h6w:=o6 _ _ h5 nw0.1 nw0.2;have t6:=(TS.of (s4.trans s5)).trans (TS.out D5 o6);have tw6:=A1.pl.tw.mono fun _ _ z=>cV.ts t6 z
    have nam:la∉[l,lf]:=by simp [na0.2,na1]
    have nwm:lw∉[l,lf]:=by simp [nw0.2,nw1]
    have laH:H la=none:=iE D3 oH3 hla;have lwH:H lw=none:=iE (D3.same s4) (oH3.trans (dM.of s4)) hlw;have sub:∀ x∈[l,lf],x∈[lw,la,l,lf]:=fun x hx=>ba _ (ba _ hx)
    exists fun σ' G=>∃ (zs:List V) (bs:List (List Int)) (ws:List Int) (v4:Option V),σ'=[some (.ref d),some (.ref r),some (.int wide),some (.ref lf),v4,some (.ref la),some (.int wy),some (.ref lw),some (.int at')]/\iZ b G la zs bs/\G lw=some (.lst (ws.map V.int))/\ws.length=bs.length/\bs.length=as1.length/\(∀ w∈ws,1<=w/\w<=10 ^ 10)/\dW G d l lf [.ref t1,p2]/\dM d l H G/\∀ v∈[V.ref t1,p2],dQ b G [lw,la,l,lf] v,?_,?_
    ·exists _,rfl,rfl,_,rfl,qV (fun c1=>?_) (fun _=>⟨us1,as1,ws1,_,rfl,⟨h6a,tw6,A1.pl.nd,A1.pl.ok,A1.pl.up⟩,h6w,q1,rfl,A1.wb,DL6,oH6,PV6⟩);exists _,rfl,_,rfl,d,l,wide,rfl,D6,∅,∅,fun x H7 x0 x1 D7 o7=>⟨_,_,rfl,rfl,_,rfl,_,rfl,lw,_,at',at'.toNat,rfl,rfl,o7 _ _ h6w nw0.1 nw0.2,by rw [ae];unfold ixN;rw [bh a0,bh ∅],?_⟩;have g7:=o7 _ _ h6w nw0.1 nw0.2;have DL7:=DL6.out D7 o7;have ts7:=(TS.out D6 o7).trans (TS.lst (ys:=(ws1.map V.int).set at'.toNat (.int (1+x))) g7);exact ⟨us1,as1,ws1.set at'.toNat (1+x),_,rfl,⟨by rw [aE nwa.symm];exact o7 _ _ h6a na0.1 na0.2,tw6.mono fun _ _ z=>cV.ts ts7 z,A1.pl.nd,A1.pl.ok,A1.pl.up⟩,by rw [aB,List.map_set],by rw [List.length_set];exact q1,rfl,fun w hw=>(bB5 hw).elim (A1.wb w) fun q=>∅,⟨sV DL7.deal g7 nw0.2,DL7.ne,by rw [aE nw1.symm];exact DL7.lst⟩,jA (oH6.trans o7) lwH,fun v hv=>((PV6 v hv).out D6 (by simp) o7).lst (by simp) g7⟩
    rintro σ' H7 ⟨zs,bs,ws,v4',rfl,P7,g7w,l7,l7b,wb7,DL7,o7,PV7⟩;have z7:=P7.tw.length;exists fun σ' G=>∃ (zs:List V) (bs:List (List Int)) (ws:List Int) (v4:Option V),σ'=[some (.ref d),some (.ref r),some (.int wide),some (.ref lf),v4,some (.ref la),some (.int wy),some (.ref lw),some (.int at')]/\iZ b G la zs bs/\G lw=some (.lst (ws.map V.int))/\ws.length=bs.length/\1<=ws.length/\ws.length<=12/\(∀ w∈ws,1<=w/\w<=10 ^ 10)/\dW G d l lf [.ref t1,p2]/\dM d l H G/\∀ v∈[V.ref t1,p2],dQ b G [lw,la,l,lf] v,?_,?_
    ·have no:∃ (zs:List V) (bs:List (List Int)) (ws:List Int) (v4:Option V),[some (.ref d),some (.ref r),some (.int wide),some (.ref lf),v4',some (.ref la),some (.int wy),some (.ref lw),some (.int at')]=[some (.ref d),some (.ref r),some (.int wide),some (.ref lf),v4,some (.ref la),some (.int wy),some (.ref lw),some (.int at')]/\iZ b H7 la zs bs/\H7 lw=some (.lst (ws.map V.int))/\ws.length=bs.length/\1<=ws.length/\ws.length<=12/\(∀ w∈ws,1<=w/\w<=10 ^ 10)/\dW H7 d l lf [.ref t1,p2]/\dM d l H H7/\∀ v∈[V.ref t1,p2],dQ b H7 [lw,la,l,lf] v:=⟨zs,bs,ws,_,rfl,P7,g7w,l7,∅,∅,wb7,DL7,o7,PV7⟩
     exists _,rfl,rfl,_,rfl,qV (fun c2=>?_) (fun _=>bW (by decide) no);exists _,rfl,la,zs,rfl,.inl (bK.of P7.h),_,_,rfl,rfl,_,rfl,qV (fun c3=>?_) (fun _=>no);have c3:(1:Int) < zs.length:=cf c3;have ai:at'.toNat < zs.length:=∅
     have si:seqIndex? at' zs.length=some at'.toNat:=(rS (by unfold ixN;rw [bh a0,bh ∅])).1;have si2:seqIndex? at' (ws.map V.int).length=some at'.toNat:=(rS (by rw [ae];unfold ixN;rw [bh a0,bh ∅])).1;exists _,rfl,.inl ⟨rfl,_,bK.of P7.h⟩,_,rfl,la,zs,at',at'.toNat,zs[at'.toNat],rfl,rfl,P7.h,∅,∅,si,ak ai,?_;have t7:=TS.lst (ys:=zs.eraseIdx at'.toNat) P7.h;have PV8:∀ v∈[V.ref t1,p2],dQ b (aJ H7 la (.lst (zs.eraseIdx at'.toNat))) [lw,la,l,lf] v:=fun v hv=>(PV7 v hv).lst (by simp) P7.h
     have DL8:dW (aJ H7 la (.lst (zs.eraseIdx at'.toNat))) d l lf [.ref t1,p2]:=⟨sV DL7.deal P7.h na0.2,DL7.ne,by rw [aE na1.symm];exact DL7.lst⟩
     have o8:=jA (o:= .lst (zs.eraseIdx at'.toNat)) o7 laH;have h8a:aJ H7 la (.lst (zs.eraseIdx at'.toNat)) la=some (.lst (zs.eraseIdx at'.toNat)):=aB;have h8w:aJ H7 la (.lst (zs.eraseIdx at'.toNat)) lw=some (.lst (ws.map V.int)):=by rw [aE nwa];exact g7w
     have tw8:=wG at'.toNat (P7.tw.mono fun _ _ z=>cV.ts t7 z);generalize aJ H7 la (.lst (zs.eraseIdx at'.toNat))=H8 at PV8 DL8 o8 h8a h8w tw8 ⊢;have aw:at'.toNat < (ws.map V.int).length:=by rw [ae];omega
     exists _,rfl,.inl ⟨rfl,_,bK.of h8w⟩,_,rfl,lw,ws.map V.int,at',at'.toNat,(ws.map V.int)[at'.toNat],rfl,rfl,h8w,∅,∅,si2,ak aw,?_;have t8:=TS.lst (ys:=(ws.map V.int).eraseIdx at'.toNat) h8w;have e1:(ws.eraseIdx at'.toNat).length=ws.length - 1:=xm ∅;have e2:(bs.eraseIdx at'.toNat).length=bs.length - 1:=xm ∅;exact ⟨_,bs.eraseIdx at'.toNat,ws.eraseIdx at'.toNat,_,rfl,⟨by rw [aE nwa.symm];exact h8a,tw8.mono fun _ _ z=>cV.ts t8 z,P7.nd.sublist (qp _ _),fun y hy=>P7.ok _ ((qp _ _).subset hy),uw (qp _ _) P7.up⟩,by rw [aB,wA],∅,∅,∅,fun w hw=>wb7 w ((qp _ _).subset hw),⟨sV DL8.deal h8w nw0.2,DL8.ne,by rw [aE nw1.symm];exact DL8.lst⟩,jA o8 lwH,fun v hv=>(PV8 v hv).lst (by simp) h8w⟩
    rintro σ' Hm ⟨zm,bm,wm,v4',rfl,PLm,hwm,wl,w1,w12,wb,DLm,om,PVm'⟩;have PVm:=fun v hv=>(PVm' v hv).less sub
    exists _,rfl,_,rfl,cT,fun t9 ht9=>?_;have s9:=aA ht9 (.tup [.ref la,.ref lw]);have PT:pZ b (aJ Hm t9 (.tup [.ref la,.ref lw])) [l,lf] t9 la lw zm bm wm:=⟨aB,PLm.same s9,s9 _ _ hwm,wl,w1,w12,wb,nam,nwm⟩
    generalize aJ Hm t9 (.tup [.ref la,.ref lw])=H9 at s9 PT ⊢;exists _,rfl,lf,_,1,1,rfl,rfl,s9 _ _ DLm.lst,rfl,.ref t1,.ref t9,_,_,_,_,rfl,(DLm.same s9).app _,jA (om.trans (dM.of s9)) hlfH,fun v hv=>?_;rcases bo.mp hv with q | q
    ·rw [q];exact ((PVm (.ref t1) bj).same s9).lst (by simp) (s9 _ _ DLm.lst)
    ·rw [ck.mp q];exact dQ.lst ⟨t9,la,lw,zm,bm,wm,rfl,PT⟩ (by simp) (s9 _ _ DLm.lst)
   ·exact bW (by simpa using c) ⟨p1,p2,_,_,_,_,rfl,DL3,oH3,PV3⟩
  rintro σ' H9 ⟨p1,p2,v4,v5,v7,v8,rfl,DLf,of,PVf⟩;refine ⟨_,rfl,lf,rfl,⟨_,bK.of DLf.lst⟩,cR (K:=K) (a:=lf) (xs:=[p1,p2]) (fun j zs σ H11=>aN H9 H11/\(∃ x y,σ=[x,y])/\uE b H11 zs/\zs.length=j)
   (aH (by show 2<=1000;decide)) ⟨aN.refl _,⟨_,_,rfl⟩,fun _ z=>absurd z cu,rfl⟩ (by rintro j zs σ H11 ⟨_,_,_,e⟩;omega) (by rintro j zs σ H11 _ ⟨e,_⟩;exact bK.of (e _ _ DLf.lst)) ?_ ?_⟩
  ·rintro j v zs σ H11 hv ⟨s11,⟨x,y,rfl⟩,T11,zl⟩;obtain ⟨t,pa,pw,us,as,ws,rfl,PA⟩:=PVf v (bq hv);have PB:=PA.same s11;exists t,_,rfl,aT.of PB.h,rfl,_,_,rfl,_,_,rfl,rfl,?_;exact ⟨_,rfl,_,rfl,b,pa,pw,us,as,ws,rfl,PB.pl,PB.hw,PB.wl,PB.w1,PB.w12,PB.wb,fun H12 t12 es c s12 ht12 ok12=>⟨s11.trans s12,⟨_,_,rfl⟩,(T11.ts (.of s12)).snoc ht12 ok12,by rw [cq,zl];rfl⟩⟩
  ·rintro zs σ H11 ⟨s11,_,T11,zl⟩ l5 hl5;obtain ⟨z1,z2,rfl⟩:=cD2 zl;obtain ⟨ta,es1,c1,rfl,ha,oa⟩:=T11 z1 (by simp);obtain ⟨tb,es2,c2,rfl,hb,ob⟩:=T11 z2 (by simp);have s5:=aA hl5 (.lst [.ref ta,.ref tb]);have h5:aJ H11 l5 (.lst [.ref ta,.ref tb]) l5=some (.lst [.ref ta,.ref tb]):=aB;have n5:=fI (DLf.deal.same s11) hl5;generalize aJ H11 l5 (.lst [.ref ta,.ref tb])=H12 at s5 h5 ⊢;exists _,rfl,_,rfl,l5,_,_,.ref tb,rfl,rfl,bK.of h5,rfl,_,rfl,l5,_,_,.ref ta,rfl,rfl,bK.of h5,rfl,cT,fun l6 hl6=>?_;have s6:=aA hl6 (.lst [.ref tb,.ref ta]);have h6:aJ H12 l6 (.lst [.ref tb,.ref ta]) l6=some (.lst [.ref tb,.ref ta]):=aB;have n6:=fI (DLf.deal.same (s11.trans s5)) hl6;generalize aJ H12 l6 (.lst [.ref tb,.ref ta])=H13 at s6 h6 ⊢;exists cT,fun l7 hl7=>?_;have s7:=aA hl7 (.lst [.ref l5,.ref l6]);have h7:aJ H13 l7 (.lst [.ref l5,.ref l6]) l7=some (.lst [.ref l5,.ref l6]):=aB;have n7:=fI (DLf.deal.same (s11.trans (s5.trans s6))) hl7
   generalize aJ H13 l7 (.lst [.ref l5,.ref l6])=H14 at s7 h7 ⊢;have s14:=s5.trans (s6.trans s7);have D14:=DLf.deal.same (s11.trans s14);exists _,rfl,d,l,2,rfl,D14,by decide,by decide,fun x H15 x0 x1 D15 o15=>?_;have oE:dM d l H H15:=of.trans ((dM.of (s11.trans s14)).trans o15);have tE:=(TS.of s14).trans (TS.out D14 o15);have e7:=o15 _ _ h7 n7.1 n7.2;have e5:=o15 _ _ ((s6.trans s7) _ _ h5) n5.1 n5.2;have e6:=o15 _ _ (s7 _ _ h6) n6.1 n6.2;have hx:x=0\/x=1:=∅
   rcases hx with rfl | rfl
   ·exact ⟨l7,_,_,.ref l5,rfl,rfl,bK.of e7,rfl,k _ l5 ta tb es1 es2 c1 c2 e5 (ha.ts tE) (hb.ts tE) oa ob D15 oE⟩
   ·exact ⟨l7,_,_,.ref l6,rfl,rfl,bK.of e7,rfl,k _ l6 tb ta es2 es1 c2 c1 e6 (hb.ts tE) (ha.ts tE) ob oa D15 oE⟩
theorem bV2 (C_LLow:Cl P w K mg base 1 spLow "_law_lowest") (C_Draw:Cl P w K mg base 1 spDraw "_law_draw") (m_dict:mg "dict"=none) (m_max:mg "max"=none) (m_len:mg "len"=none):gX P w K mg base "_law_factor" "_law_factor" cD8 2 ["_law_deal_here","_law_one","_law_other"] spFac:=by
 refine jK ["_law_deal_here","_law_one","_law_other","_law_shares_here","_law_some","_law_here","_law_there","_law_found"] fun H Q nd hr h=>?_
 obtain ⟨d,l,b,t1,t2,c1,c2,es1,es2,rfl,D,⟨us1,h1,tw1⟩,⟨us2,h2,tw2⟩,o1,o2,k⟩:=h;have hu:=fP hr;have hr1:bU 1 _:=hr.mono (by decide);refine ⟨_,(gF 3 nd (vH (kK hr1) m_dict fi (aS (pv 2)))
  (aI (iB ["_law_answer","_law_share","_law_shares_here"] [none,none,some 3] (i:=4) nd rfl (jg rfl) (cM (pv 1)) (fun _ _ _ _=>(kT K (n:=2) rfl (aL (cW 0) (aL (cW 1) bE)))) (fun _ _ _ _=>(gM (lL (uH hu (pv 0) (pv 2))))) (fun _ _ _ _=>(aW (aC (pv 1) (aS (pdg hu (pv 2) (pv 0)))))))
  (aI (cE (PW.pt (pW (iL (aE6 hr1) (pv 4) (fF gO)) (mM (iL iR (cP C_Draw hr (aC (pv 0) (aS aD))) aD)))) (aI (qH (cQ dU (pv 4) (cP C_Draw hr (aC (pv 0) (aS (pP cD m_len jb (aS (pv 4))))))) (gC rfl (aL (cW 5 nd) (aL (cW 6 nd) bE))))
  (gF 7 nd (cP C_LLow hr (aC (aR bX (cQ aM (pv 5) aD) (cQ aM (pv 6) aD)) (aS (aR bX (cQ aM (pv 5) aD) (cQ aM (pv 6) aD)))))
  (aG (cE (iL mW (pP aH3 m_max aAl (aS (pv 7))) (aR aC9 aD aD)) (aG (aP (pv 7))) aU)))) aU)
  (aG (aP (cP C_LLow hr (aC (cP C_Draw hr (aC (pv 0) (aS aD))) (aS (aR fH aD (cP C_Draw hr (aC (pv 0) (aS aD)))))))))))),?_⟩
 have l1:=tw1.length;have l2:=tw2.length;have m1:=o1.l2;have m2:=o2.l2;obtain ⟨o,o0,od⟩:=rK (aH ∅) o2.nd tw2;exists _,rfl,t2,us2,o,rfl,h2,o0,fun dd hd=>⟨(od dd hd).1,?_⟩;obtain ⟨_,hD,sD⟩:=od dd hd;generalize aJ H dd (o us2.length)=H1 at hD sD ⊢;refine ⟨_,rfl,t1,rfl,⟨_,aT.of (sD _ _ h1)⟩,cC (K:=K) (a:=t1) (xs:=us1) (fun i zs σ H2=>aN H1 H2/\(∃ v1 v2,σ=[v1,v2,some (.ref dd)])/\zs.length<=i/\∃ ss,bC (mT H2) zs ss)
  (aH ∅) ⟨aN.refl _,⟨_,_,rfl⟩,ao _,[],trivial⟩ (by rintro i zs σ H2 ⟨_,_,e,_⟩;exact e) (by rintro i zs σ H2 _ ⟨e,_⟩;exact aT.of (e _ _ (sD _ _ h1))) ?_ ?_⟩
 ·rintro i v zs σ H2 hv ⟨s2,⟨v1,v2,rfl⟩,zl,ss,tw⟩;obtain ⟨e,he,me,t,x,q,rfl,ht,hx,hq⟩:=fY.at tw1 hv;have g:=sD.trans s2;exists t,_,rfl,aT.of (g _ _ ht),rfl,_,_,rfl,_,_,rfl,rfl,?_;obtain ⟨o,dg,og⟩:=(hD.same s2).get (hx.ts (.of g));exists _,rfl,_,rfl,dd,o,rfl,dg,_,rfl,?_
  cases hg:jD es2 e.1 with
  |none =>
   rw [hg] at og
   cases o with
   |some v=>exact og.elim
   |none=>exact bW (by simp) ⟨s2,⟨_,_,rfl⟩,∅,ss,tw⟩
  |some s =>
   rw [hg] at og
   cases o with
   |none=>exact og.elim
   |some v =>
    obtain ⟨q2,rfl,hq2⟩:=og;refine dR rfl ?_;have sb:=(o1.at me).1;have tb:=o2.at (oI hg);exists _,rfl,_,rfl,_,rfl,dd,.ref q2,rfl,dg,cT,fun t3 ht3=>⟨s2.trans (aA ht3 _),⟨_,_,rfl⟩,by rw [cq];show zs.length+1<=_;omega,ss++[(e.2,s)],?_⟩;have s3:=aA ht3 (.tup [.ref q,.ref q2]);exact bC.append (tw.mono fun _ _ z=>z.ts (.of s3)) ⟨⟨t3,q,q2,rfl,aB,(g.trans s3) _ _ hq,s3 _ _ hq2,sb,tb.1,tb.2⟩,trivial⟩
 ·rintro zs σ H2 ⟨s2,_,zl,ss,tw⟩ ls hls;have s3:=aA hls (.lst zs);have h3:aJ H2 ls (.lst zs) ls=some (.lst zs):=aB;replace tw:=tw.mono fun _ _ z=>mT.ts (.of s3) z
  have n3:=fI (D.same (sD.trans s2)) hls;generalize aJ H2 ls (.lst zs)=H3 at s3 h3 tw ⊢;exists _,rfl,df _,fun l6 hl6=>?_;have s6:=aA hl6 (.lst []);have h6:aJ H3 l6 (.lst []) l6=some (.lst []):=aB;replace tw:=tw.mono fun _ _ z=>mT.ts (.of s6) z
  replace h3:=s6 _ _ h3;generalize aJ H3 l6 (.lst [])=H6 at s6 h6 tw h3 ⊢;have g6:=sD.trans (s2.trans (s3.trans s6));have D6:=D.same g6;have zl2:=tw.length;exists .list (ss.map prD),.list [],bG1 h3 tw,⟨l6,[],rfl,bK.of h6,rfl⟩,aQ7 ss,nB,pJ,_,rfl,?_
  by_cases c:ss=[]
  ·refine bW (by show ¬ (!Spec.same _ _)=true;rw [lF];simp [c]) ?_;refine bW (by simp) ?_;have DZ:=D6;have oZ:dM d l H H6:=dM.of g6;exists _,rfl,d,l,13,rfl,DZ,by decide,by decide,fun x1 HX y0 y1 DX oX=>?_;exists _,rfl,d,l,6,rfl,DX,by decide,by decide,fun x2 HY z0 z1 DY oY=>⟨_,_,rfl,rfl,x1,1+x2,rfl,y0,∅,∅,fun r hr'=>?_⟩;exact k _ r (aK x1 (1+x2)) aB (xT y0 ∅ ∅ ∅) (DY.same (aA hr' _)) (oZ.trans (oX.trans (oY.trans (dM.of (aA hr' _)))))
  ·refine dR (by show (!Spec.same _ _)=true;rw [lF];simp [c]) ?_;exists _,rfl,d,l,3,rfl,D6,by decide,by decide,fun x H7 x0 x1 D7 o7=>⟨rfl,_,rfl,?_⟩;have oH7:dM d l H H7:=(dM.of g6).trans o7
   by_cases c1:x=0
   ·refine dR (by simp [c1]) ?_;have sl:1<=ss.length:=by cases ss with | nil=>exact absurd rfl c | cons _ _=>simp
    have h7:=o7 _ _ h3 n3.1 n3.2;have tw7:=tw.mono fun _ _ z=>mT.ts (TS.out D6 o7) z
    exists _,rfl,_,rfl,_,rfl,ls,zs,rfl,.inl (bK.of h7),d,l,zs.length,rfl,D7,∅,∅,fun y H8 y0 y1 D8 o8=>?_;have yl:y.toNat < zs.length:=∅
    have h8:=o8 _ _ h7 n3.1 n3.2;have tw8:=tw7.mono fun _ _ z=>mT.ts (TS.out D7 o8) z
    obtain ⟨s,hs,t,p,q,ev,ht,hp,hq,sp,sq,q1⟩:=tw8.at (ak yl);exists ls,zs,_,zs[y.toNat],rfl,rfl,bK.of h8,(by have h:=jB (ak yl);rwa [show ((y.toNat:Nat):Int)=y by omega] at h),t,_,ev,aT.of ht,rfl,_,_,rfl,_,_,rfl,rfl,?_;have b1:=sp.b1;have b2:=sq.b1;exists _,rfl,p,_,_,_,rfl,rfl,aT.of hp,tO _ _,_,rfl,q,_,_,_,rfl,rfl,aT.of hq,mS _ _,_,_,rfl,rfl,⟨b1.1.below,b2.2.below⟩,?_;exists _,rfl,p,_,_,_,rfl,rfl,aT.of hp,mS _ _,_,rfl,q,_,_,_,rfl,rfl,aT.of hq,tO _ _,_,_,rfl,rfl,⟨b1.2.below,b2.1.below⟩,?_;have e1:=gH sp.a sp.a2 (by have:=sq.b;omega) sq.b2;have e2:=gH (by have:=sp.b;omega) sp.b2 sq.a sq.a2;exists _,_,rfl,e1.1,dD sp.b q1,∅,fun r hr'=>?_;have s9:=aA hr' (.tup (eJ (s.1.1 * s.2.2) (s.1.2 * s.2.1)));have h9:bP (aJ H8 r (.tup (eJ (s.1.1 * s.2.2) (s.1.2 * s.2.1)))) r (aC4 s.1 s.2).1 (aC4 s.1 s.2).2:=aB;have Gq:=bR3 sp sq q1;generalize aJ H8 r (.tup (eJ (s.1.1 * s.2.2) (s.1.2 * s.2.1)))=H9 at s9 h9 ⊢
    have oZ:dM d l H H9:=oH7.trans (o8.trans (dM.of s9));have DZ:=D8.same s9;exists _,rfl,r,[(aC4 s.1 s.2).1,(aC4 s.1 s.2).2],rfl,aT.of h9,by simp,fun mx hm=>⟨_,_,rfl,rfl,⟨by decide,by decide,by decide⟩,_,_,rfl,rfl,_,rfl,?_⟩;have ma:=hm (aC4 s.1 s.2).1 (by simp);have mb:=hm (aC4 s.1 s.2).2 (by simp)
    by_cases c2:mx < 10 ^ (12:Int).toNat
    ·refine dR (ar c2) ?_;have c3:mx < 1000000000000:=c2;exact ⟨_,rfl,k _ r (aC4 s.1 s.2) h9 ⟨Gq.a,∅,Gq.b,∅⟩ DZ oZ⟩
    ·refine bW (by simpa using c2) ?_;exists _,rfl,d,l,13,rfl,DZ,by decide,by decide,fun x1 HX y0 y1 DX oX=>?_;exists _,rfl,d,l,6,rfl,DX,by decide,by decide,fun x2 HY z0 z1 DY oY=>⟨_,_,rfl,rfl,x1,1+x2,rfl,y0,∅,∅,fun r hr'=>?_⟩;exact k _ r (aK x1 (1+x2)) aB (xT y0 ∅ ∅ ∅) (DY.same (aA hr' _)) (oZ.trans (oX.trans (oY.trans (dM.of (aA hr' _)))))
   ·refine bW (by simp [c1]) ?_;have DZ:=D7;have oZ:=oH7;exists _,rfl,d,l,13,rfl,DZ,by decide,by decide,fun x1 HX y0 y1 DX oX=>?_;exists _,rfl,d,l,6,rfl,DX,by decide,by decide,fun x2 HY z0 z1 DY oY=>⟨_,_,rfl,rfl,x1,1+x2,rfl,y0,∅,∅,fun r hr'=>?_⟩;exact k _ r (aK x1 (1+x2)) aB (xT y0 ∅ ∅ ∅) (DY.same (aA hr' _)) (oZ.trans (oX.trans (oY.trans (dM.of (aA hr' _)))))
theorem bR0 (C_Draw:Cl P w K mg base 1 spDraw "_law_draw") (m_tuple:mg "tuple"=none):gX P w K mg base "_law_pairs" "_law_pairs" cF6 2 ["_law_deal_here","_law_one","_law_other"] spPrs:=by
 refine jK ["_law_deal_here","_law_one","_law_other","_law_way","_law_found","_law_x","_law_share","_law_y","_law_more"] fun H Q nd hr h=>?_
 obtain ⟨d,l,b,t1,t2,c1,c2,es1,es2,rfl,D,⟨us1,h1,tw1⟩,⟨us2,h2,tw2⟩,o1,o2,k⟩:=h;have hu:=fP hr;refine ⟨_,(gF 3 nd (cP C_Draw hr (aC (pv 0) (aS aD)))
  (gF 4 nd (fF gO)
  (aI (wK (cM (pv 1)) (gC rfl (aL (cW 5 nd) (aL (cW 6 nd) bE)))
  (aG (wK (cM (pv 2)) (gC rfl (aL (cW 7 nd) (aL (cW 8 nd) bE)))
  (aG (cE (PW.pt (tN (PW.pt (pW (iL iR (pv 3) aD) (mM (iL (aH1 hr) (pv 5) (pv 7))))) (pS (PW.pt (pW (iL lK (pv 3) aD) (mM (iL mW (cP C_Draw hr (aC (pv 0) (aS aD))) (pv 3)))))))) (aG (hX (qL gc jh ji iG (pv 4) (aS (aW (aC (pv 5) (aS (pv 7)))))))) aU)))))
  (aG (aP (vH fK m_tuple gy (aS (pv 4)))))))),?_⟩
 have nk:=o1.nd;have nq:=o2.nd;have l1:=tw1.length;have l2:=tw2.length;have z1:=o1.l2;have z2:=o2.l2;have lm:(es1.map (·.1)).length * (es2.map (·.1)).length<=144:=by
  rw [ae,ae];exact Nat.mul_le_mul z1 z2
 exists _,rfl,d,l,5,rfl,D,by decide,by decide,fun wy H1 w0 w1 D1 oD=>?_;exists df _,fun lf hlf=>?_;have DL0:=dW.new D1 hlf;have hlfH:H lf=none:=iE D1 oD hlf;have oo:dM d l H (aJ H1 lf (.lst [])):=oD.trans (dM.of (aA hlf _));generalize aJ H1 lf (.lst [])=H2 at DL0 oo ⊢;have tk:∀ {G:Hp},dM d l H G->TS H G:=fun o=>TS.out D o
 exists _,rfl,t1,rfl,⟨_,aT.of (tk oo _ _ h1)⟩,iV (xs:=us1) (fun i σ G=>∃ ws prs v5 v6 v7 v8,σ=[some (.ref d),some (.ref t1),some (.ref t2),some (.int wy),some (.ref lf),v5,v6,v7,v8]/\dW G d l lf ws/\dM d l H G/\bC (jJ b G) ws prs/\PrI (es1.map (·.1)) (es2.map (·.1)) prs i 0) ⟨[],[],_,_,_,_,rfl,DL0,oo,trivial,⟨jj,fun _ z=>absurd z cu⟩⟩ (by rintro i σ G _ ⟨_,_,_,_,_,_,_,_,o,_⟩;exact aT.of (tk o _ _ h1)) ?_ ?_
 ·rintro i u σ G hu ⟨ws0,prs0,v5,v6,v7,v8,rfl,DL,o,tw0,I0⟩;obtain ⟨e,he,me,t,x,q,rfl,ht,vx0,hq⟩:=fY.at tw1 hu;have hkx:(es1.map (·.1))[i]?=some e.1:=kE he;exists t,_,rfl,aT.of (tk o _ _ ht),rfl,_,_,rfl,_,_,rfl,rfl,?_;exists _,rfl,t2,rfl,⟨_,aT.of (tk o _ _ h2)⟩,iV (xs:=us2) (fun j σ G=>∃ ws prs v7 v8,σ=[some (.ref d),some (.ref t1),some (.ref t2),some (.int wy),some (.ref lf),some x,some (.ref q),v7,v8]/\dW G d l lf ws/\dM d l H G/\bC (jJ b G) ws prs/\PrI (es1.map (·.1)) (es2.map (·.1)) prs i j) ⟨ws0,prs0,_,_,rfl,DL,o,tw0,I0⟩ (by rintro i σ G _ ⟨_,_,_,_,_,_,o,_⟩;exact aT.of (tk o _ _ h2)) ?_ ?_
  ·rintro j u2 σ G hu2 ⟨ws,prs,v7,v8,rfl,DL,o,tw,J⟩;obtain ⟨e2,he2,me2,tt,y,q2,rfl,ht2,vy0,hq2⟩:=fY.at tw2 hu2;have hqy:(es2.map (·.1))[j]?=some e2.1:=kE he2;have vx:=vx0.ts (tk o);have vy:=vy0.ts (tk o);exists tt,_,rfl,aT.of (tk o _ _ ht2),rfl,_,_,rfl,_,_,rfl,rfl,?_;exists _,rfl,rfl,_,rfl,?_
   by_cases c:wy=0
   ·refine dR (by simp [c]) ⟨_,rfl,_,rfl,bE6 vx vy ⟨_,rfl,?_⟩⟩;have TSX:TS G G:=fun _ _ z=>z
    have DLX:=DL;have OX:=o
    by_cases c2:e.1=e2.1
    ·refine dR (ar c2) (dR rfl ?_);exists _,rfl,.inl ⟨rfl,_,bK.of DLX.lst⟩,_,rfl,_,rfl,cT,fun r hr'=>?_;have sr:=aA hr' (.tup [x,y]);have DR:=DLX.same sr;exists lf,_,_,rfl,rfl,DR.lst,aH (by rw [tw.length];have:=J.len;omega),?_;have tl:=TS.lst (ys:=ws++[.ref r]) DR.lst;exact ⟨_,prs++[(e.1,e2.1)],_,_,rfl,DR.app _,jA (OX.trans (dM.of sr)) hlfH,bC.append (tw.mono fun _ _ z=>jJ.ts (TSX.trans ((TS.of sr).trans tl)) z) ⟨⟨r,x,y,rfl,tl _ _ (sF hr'),((vx.ts TSX).ts (TS.of sr)).ts tl,((vy.ts TSX).ts (TS.of sr)).ts tl⟩,trivial⟩,J.add nk nq hkx hqy⟩
    ·refine bW (by simpa using c2) ⟨_,rfl,_,_,rfl,rfl,_,rfl,bW (by simp [c]) (bW (by decide) ⟨ws,prs,_,_,rfl,DL,o,tw,J.skip⟩)⟩
   ·refine bW (by simp [c]) (bW (by decide) ⟨_,rfl,_,_,rfl,rfl,_,rfl,dR (by simp;omega) ?_⟩);exists _,rfl,d,l,4,rfl,DL.deal,by decide,by decide,fun dr G2 d0 d1 D2 o2'=>⟨_,rfl,_,_,rfl,rfl,_,rfl,?_⟩;have TSX:TS G G2:=TS.out DL.deal o2';have DLX:=DL.out D2 o2';have OX:=o.trans o2';refine qV (fun _=>?_) (fun _=>⟨ws,prs,_,_,rfl,DLX,OX,tw.mono fun _ _ z=>jJ.ts TSX z,J.skip⟩);exists _,rfl,.inl ⟨rfl,_,bK.of DLX.lst⟩,_,rfl,_,rfl,cT,fun r hr'=>?_;have sr:=aA hr' (.tup [x,y]);have DR:=DLX.same sr;exists lf,_,_,rfl,rfl,DR.lst,aH (by rw [tw.length];have:=J.len;omega),?_;have tl:=TS.lst (ys:=ws++[.ref r]) DR.lst;exact ⟨_,prs++[(e.1,e2.1)],_,_,rfl,DR.app _,jA (OX.trans (dM.of sr)) hlfH,bC.append (tw.mono fun _ _ z=>jJ.ts (TSX.trans ((TS.of sr).trans tl)) z) ⟨⟨r,x,y,rfl,tl _ _ (sF hr'),((vx.ts TSX).ts (TS.of sr)).ts tl,((vy.ts TSX).ts (TS.of sr)).ts tl⟩,trivial⟩,J.add nk nq hkx hqy⟩
  ·rintro σ G ⟨ws,prs,v7,v8,rfl,DL,o,tw,J⟩;exact ⟨ws,prs,_,_,_,_,rfl,DL,o,tw,J.next⟩
 ·rintro σ G ⟨ws,prs,v5,v6,v7,v8,rfl,DL,o,tw,I⟩;have ln:=I.len;exists _,rfl,lf,ws,rfl,.inl ⟨bK.of DL.lst,fun p hp=>?_⟩;have sp:=aA hp (.tup ws);exact k _ p ws prs aB (tw.mono fun _ _ z=>jJ.ts (TS.of sp) z) ⟨fun e he=>⟨(I.me e he).1,(I.me e he).2.1⟩,I.nd,nk,nq,∅,by rw [ae];omega,by rw [ae];omega⟩ (DL.deal.same sp) (o.trans (dM.of sp))
theorem bQ6 (C_LTim:Cl P w K mg base 2 spTimes "_law_times") (C_Plus:Cl P w K mg base 2 spPlus "_law_plus"):gX P w K mg base "_law_over" "_law_over" cG7 3 ["_law_one","_law_other","_law_pairs_here","_law_factor_here","_law_answers"] spOver:=by
 refine jK ["_law_one","_law_other","_law_pairs_here","_law_factor_here","_law_answers","_law_here","_law_x","_law_share","_law_there","_law_y"] fun H Q nd hr h=>?_
 obtain ⟨b,t1,t2,p3,p4,ta,c1,c2,es1,es2,fac,ws3,prs,us,as,M,rfl,A,m,ha,ta2,k⟩:=h;have hu:=fP hr;have hr2:bU 2 _:=hr.mono (by decide);refine ⟨_,(gF 5 nd (aW (aC aD (aS aD)))
  (aI (wK (cM (pv 0)) (gC rfl (aL (cW 6 nd) (aL (cW 7 nd) bE)))
  (aG (cE (iL (aD2 K hr) (pv 6) (pv 4)) (aG (psz 5 nd (cP C_Plus hr (aC (pv 5) (aS (pv 7)))))) aU)))
  (gF 8 nd (aW (aC aD (aS aD)))
  (aI (wK (cM (pv 1)) (gC rfl (aL (cW 9 nd) (aL (cW 7 nd) bE)))
  (aG (cE (iL (aE6 hr) (bJ ["_law_x","_law_near","_law_y","_law_answers"] [none,none,some 9,some 4] (cM (pv 2)) (fun _ _ _ _=>(kT K (n:=2) rfl (aL (cW 0) (aL (cW 1) bE)))) (fun _ _ _ _=>(gM (PW.pt (pW (iL (cJ2 K hr) (pv 1) (pv 2)) (mM (iL (aD2 K hr) (pv 0) (pv 3))))))) (fun _ _ _ _=>(pv 0))) (fF gO)) (aG (psz 8 nd (cP C_Plus hr (aC (pv 8) (aS (pv 7)))))) aU)))
  (aG (aP (aW (aC (pv 5) (aS (cP C_LTim hr (aC (pv 3) (aS (pv 8))))))))))))),?_⟩
 have Z:=A.scl m;obtain ⟨us1,h1,tw1⟩:=A.ask.h1;obtain ⟨us2,h2,tw2⟩:=A.ask.h2;have l1:=tw1.length;have l2:=tw2.length;have z1:=A.ask.o1.l2;have z2:=A.ask.o2.l2;have z3:=A.ly.zp;have M1:=m.m1;have M2:=m.m2;have n1:∀ i,0<=((((es1.map (·.1)).take i).filter (eO as)).map (bD es1 M)).sum/\((((es1.map (·.1)).take i).filter (eO as)).map (bD es1 M)).sum<=M:=fun i=>by
  have:=nN (eO as) (l:=es1.map (·.1)) Z.nn1 i;rw [Z.sum1] at this;exact this
 have nnc:=Z.nnc;have C1:=A.ask.o2.c1;have C2:=A.ask.o2.c2;have n2:∀ i,0<=((((es2.map (·.1)).take i).filter (kI prs (eO as))).map (bD es2 c2)).sum/\((((es2.map (·.1)).take i).filter (kI prs (eO as))).map (bD es2 c2)).sum<=c2:=fun i=>by
  have:=nN (kI prs (eO as)) (l:=es2.map (·.1)) nnc i;rw [rG A.ask.o2] at this;exact this
 exists cT,fun q0 hq0=>?_;have s0:=aA hq0 (.tup [.int 0,.int 1]);have f0:dX (aJ H q0 (.tup [.int 0,.int 1])) q0 0 M:=by unfold dX;rw [dO M1];exact aB
 generalize aJ H q0 (.tup [.int 0,.int 1])=H0 at s0 f0 ⊢;exists _,rfl,t1,rfl,⟨_,aT.of (s0 _ _ h1)⟩,iV (xs:=us1) (fun i σ G=>∃ q v6 v7,σ=[some (.ref t1),some (.ref t2),some (.ref p3),some (.ref p4),some (.ref ta),some (.ref q),v6,v7,none,none]/\aN H G/\dX G q ((((es1.map (·.1)).take i).filter (eO as)).map (bD es1 M)).sum M) ⟨q0,none,none,rfl,s0,f0⟩ (by rintro i σ G _ ⟨_,_,_,_,s,_⟩;exact aT.of (s _ _ h1)) ?_ ?_
 ·rintro i u σ G hu ⟨q,v6,v7,rfl,s,hq⟩;obtain ⟨e,he,me,t,x,p,rfl,ht,vx,hp⟩:=fY.at tw1 hu;exists t,_,rfl,aT.of (s _ _ ht),rfl,_,_,rfl,_,_,rfl,rfl,?_;exists _,rfl,_,rfl,aG6 (s _ _ ha) (ta2.mono fun _ _ z=>cV.ts (TS.of s) z) (vx.ts (TS.of s)) ⟨_,rfl,?_⟩;have ei:=oW (eO as) (bD es1 M) (kE (f:=fun e:En=>e.1) he)
  by_cases c:e.1∈as
  ·have ci:eO as e.1=true:=ar c;rw [bh ci] at ei;obtain ⟨ev,e1,_⟩:=Z.one me;have hp2:dX G p (bD es1 M e.1) M:=by unfold dX;rw [<- ev];exact s _ _ hp
   refine dR ci ⟨_,rfl,_,rfl,q,p,_,_,rfl,hq,hp2,bZ (n1 i).1 (by have:=(n1 i).2;omega) M1 ∅,bZ ∅ (by have:=(n1 (i+1)).2;have:=(n1 i).1;omega) M1 ∅,fun r hr'=>⟨r,_,_,rfl,s.trans (aA hr' _),?_⟩⟩;rw [ei];unfold dX;rw [<- eS (n1 i).1 ∅ M1];exact aB
  ·have ci:¬ eO as e.1=true:=fun z=>c (cf z)
   rw [ap ci,sv] at ei;exact bW ci ⟨q,_,_,rfl,s,by rw [ei];exact hq⟩
 rintro σ G ⟨q,v6,v7,rfl,s,hq⟩;rw [l1,show es1.length=(es1.map (·.1)).length from (ae ..).symm,be] at hq;exists cT,fun r0 hr0=>?_;have sr:=aA hr0 (.tup [.int 0,.int 1]);have s1:=s.trans sr;have hq1:dX (aJ G r0 (.tup [.int 0,.int 1])) q (hM es1 M as) M:=sr _ _ hq;have g0:dX (aJ G r0 (.tup [.int 0,.int 1])) r0 0 c2:=by unfold dX;rw [dO C1];exact aB
 generalize aJ G r0 (.tup [.int 0,.int 1])=G0 at s1 hq1 g0 ⊢;clear hq s;exists _,rfl,t2,rfl,⟨_,aT.of (s1 _ _ h2)⟩,iV (xs:=us2) (fun i σ G=>∃ q2 v7 v9,σ=[some (.ref t1),some (.ref t2),some (.ref p3),some (.ref p4),some (.ref ta),some (.ref q),v6,v7,some (.ref q2),v9]/\aN G0 G/\dX G q2 ((((es2.map (·.1)).take i).filter (kI prs (eO as))).map (bD es2 c2)).sum c2) ⟨r0,v7,none,rfl,aN.refl _,g0⟩ (by rintro i σ G _ ⟨_,_,_,_,s,_⟩;exact aT.of (s _ _ (s1 _ _ h2))) ?_ ?_
 ·rintro i u σ G hu ⟨q2,v7,v9,rfl,s,hq2⟩;obtain ⟨e,he,me,t,y,p,rfl,ht,vy,hp⟩:=fY.at tw2 hu;have sG:=s1.trans s;exists t,_,rfl,aT.of (sG _ _ ht),rfl,_,_,rfl,_,_,rfl,rfl,?_;have l3:=A.tw3.length;exists _,rfl,p3,rfl,⟨_,aT.of (sG _ _ A.h3)⟩,cC (xs:=ws3) (fun k zs σ G'=>G'=G/\(∃ v1 v2,σ=[v1,v2,some y,some (.ref ta)])/\bC (cV b G) zs (((prs.take k).filter fun f=>decide (f.2=e.1) && eO as f.1).map (·.1))) (aH ∅) ⟨rfl,⟨_,_,rfl⟩,trivial⟩ (by rintro k zs σ G' ⟨_,_,t⟩;rw [t.length,ae];exact cy (de _ _) (by rw [bx];omega)) (by rintro k zs σ G' _ ⟨e,_⟩;rw [e];exact aT.of (sG _ _ A.h3)) ?_ ?_
  ·rintro kk uu zs σ G' hu' ⟨rfl,⟨v1,v2,rfl⟩,tz⟩;obtain ⟨f,hf,tt,a1,a2,rfl,hh,va1,va2⟩:=A.tw3.at hu';have v1':=va1.ts (TS.of sG);have v2':=va2.ts (TS.of sG);exists tt,_,rfl,aT.of (sG _ _ hh),rfl,_,_,rfl,_,_,rfl,rfl,?_;exists _,rfl,_,rfl,bE6 v2' (vy.ts (TS.of sG)) ⟨_,rfl,?_⟩;rw [aO hf,fk,bp]
   by_cases c:f.2=e.1
   ·refine dR (ar c) ⟨_,rfl,_,rfl,aG6 (sG _ _ ha) (ta2.mono fun _ _ z=>cV.ts (TS.of sG) z) v1' ⟨_,rfl,?_⟩⟩
    by_cases c2:f.1∈as
    ·refine dR (ar c2) ⟨_,rfl,rfl,⟨_,_,rfl⟩,?_⟩;rw [fb (by rw [ar c];exact ar c2)];exact bC.append tz ⟨v1',trivial⟩
    ·refine bW (fun z=>c2 (cf z)) ⟨rfl,⟨_,_,rfl⟩,?_⟩;rw [dz (by intro z;rw [ig] at z;exact c2 (cf z.2)),eu,jf,fw];exact tz
   ·refine bW (by simpa using c) (bW (by decide) ⟨rfl,⟨_,_,rfl⟩,?_⟩);rw [dz (by intro z;rw [ig] at z;exact c (cf z.1)),eu,jf,fw];exact tz
  rintro zs σ G' ⟨rfl,_,tz⟩ lz hlz;rw [l3,be] at tz;exists df _,fun ln hln=>?_;have sn:=(aA hlz (.lst zs)).trans (aA hln (.lst []));refine bT0 (aA hln _ _ _ aB) (tz.mono fun _ _ z=>cV.ts (TS.of sn) z) aB ⟨_,rfl,?_⟩;have sH:=sG.trans sn;have hq3:dX (aJ (aJ G' lz (.lst zs)) ln (.lst [])) q2 _ c2:=sn _ _ hq2;have sg:=s.trans sn;have hp3:bP (aJ (aJ G' lz (.lst zs)) ln (.lst [])) p e.2.1 e.2.2:=sH _ _ hp;generalize aJ (aJ G' lz (.lst zs)) ln (.lst [])=G2 at sH hq3 sg hp3 ⊢;have ei:=oW (kI prs (eO as)) (bD es2 c2) (kE (f:=fun e:En=>e.1) he);obtain ⟨ev,e0,_⟩:=Z.oth me
  by_cases c:kI prs (eO as) e.1=true
  ·rw [bh c] at ei;have ne:¬ ((prs.filter fun f=>decide (f.2=e.1) && eO as f.1).map (·.1))=[]:=fun z=>by
    obtain ⟨f,hf,q⟩:=fy.mp c;have:f∈prs.filter fun f=>decide (f.2=e.1) && eO as f.1:=br.mpr ⟨hf,q⟩
    rw [wg.mp z] at this;exact cu this
   have hp2:dX G2 p (bD es2 c2 e.1) c2:=by unfold dX;rw [<- ev];exact hp3
   refine dR (by rw [dk ne];rfl) ⟨_,rfl,_,rfl,q2,p,_,_,rfl,hq3,hp2,bZ (n2 i).1 (by have:=(n2 i).2;omega) C1 ∅,bZ e0 (by have:=(n2 (i+1)).2;have:=(n2 i).1;omega) C1 ∅,fun r hr'=>⟨r,_,_,rfl,sg.trans (aA hr' _),?_⟩⟩;rw [ei];unfold dX;rw [<- eS (n2 i).1 e0 C1];exact aB
  ·rw [ap c,sv] at ei;have ne:((prs.filter fun f=>decide (f.2=e.1) && eO as f.1).map (·.1))=[]:=by
    rw [wg,List.filter_eq_nil_iff];exact fun f hf q=>c (fy.mpr ⟨f,hf,q⟩)
   refine bW (by rw [ar ne];decide) ⟨q2,_,_,rfl,sg,by rw [ei];exact hq3⟩
 rintro σ G ⟨q2,v7,v9,rfl,s,hq2⟩;rw [l2,show es2.length=(es2.map (·.1)).length from (ae ..).symm,be] at hq2;have nq:=n2 (es2.map (·.1)).length;rw [be] at nq;have fq:=bZ nq.1 (show _ < (2:Int) ^ 180 by omega) C1 (show c2 < 2 ^ 180 by omega);have et:=Z.et prs as;exists _,rfl,_,rfl,_,rfl,p4,q2,_,_,_,_,rfl,(s1.trans s) _ _ A.ask.hf,hq2,A.ask.of.b1.1,A.ask.of.b1.2,fq.1,fq.2.1,A.ask.of.b,fq.2.2,fun r hr'=>⟨cT,fun r2 hr2=>?_⟩;have sn:=(aA hr' (.tup (eJ (fac.1 * (aK (((es2.map (·.1)).filter (kI prs (eO as))).map (bD es2 c2)).sum c2).1) (fac.2 * (aK (((es2.map (·.1)).filter (kI prs (eO as))).map (bD es2 c2)).sum c2).2)))).trans (aA hr2 (.tup [.ref q,.ref r]));refine k _ r2 q r ((s1.trans s).trans sn) aB (sn _ _ (s _ _ hq1)) ?_;unfold dX;rw [<- et];exact aA hr2 _ _ _ aB
theorem bS4 (C_Add:Cl P w K mg base 3 spAdd "added"):gX P w K mg base "come_to_each" "come_to_each" cF8 4 ["pairing","side"] (aZ9 P w):=by
 refine jK ["pairing","side","totals","pair","share"] fun H Q nd hr h=>?_
 obtain ⟨b,d,sd,ps,l,M,rfl,G,k⟩:=h;have hu:=fP hr;refine ⟨_,(gF 2 nd (bL2 b)
  (aI (nP (wK (uJ (pv 0)) (gC rfl (aL (cW 3 nd) (aL (cW 4 nd) bE)))
  (aG (pdp hu (pv 2) (cQ aM (pv 3) (pv 1)) (cP C_Add hr (aC (fR hu (pv 2) (cQ aM (pv 3) (pv 1)) (aW (aC aD (aS aD))) ⟨rfl,rfl,rfl,rfl⟩) (aS (pv 4))))))))
  (aG (aP (pv 2))))),?_⟩
 obtain ⟨xs,hd,lx,wk⟩:=G.h.walk;have M1:=G.m1;have M2:=G.m2;have nn:∀ e∈ps,0<=l e:=fun e he=>by have:=G.p e he;omega
 have bd:=fun i x=>nO nn (fun e=>decide (jS sd e=x)) i
 have sM:=G.s;have zz:=G.z;refine fun g hg=>?_
 have ndg:d≠g:=aF hd hg;exists _,rfl,d,xs,rfl,aA hg _ _ _ hd,fun o=>vK (P:=P) (w:=w) (d:=d) (o:=o) (xs:=xs) (fun i σ G'=>∃ v3 v4,σ=[some (.ref d),some (.int (if sd=true then 1 else 0)),some (.ref g),v3,v4]/\aN (aJ H d (.frz o (dN P w d xs))) G'/\eT b G' g (fX (ps.take i) l sd) M i) ⟨none,none,rfl,?_,?_⟩ (by rintro i σ G' _ ⟨_,_,_,s,_⟩;exact s _ _ aB) ?_ ?_
 ·exact fun c u e=>by
   by_cases cd:c=d
   ·subst cd;rw [aB] at e ⊢;exact e
   ·rw [aE cd] at e ⊢;exact aA hg _ _ _ e
 ·exact ((eT.start hg).keep (fun c us e=>by rw [aE (bN e (aA hg _ _ _ hd) (by intro z;cases z))];exact e) (fun u e=>by rw [aE ndg.symm];exact e)).eq (funext fun _=>rfl)
 ·rintro i x t σ G' hx ht ⟨v3,v4,rfl,s,T⟩;obtain ⟨e,q,he,eq,hq,t',u1,u2,et,hpt,va1,va2⟩:=wk i x hx;obtain rfl:x.2.1=t':=V.ref.inj et;have me:=bq he;have li:=(bw.mp he).1;rw [eq];have s1:=s.trans (aA ht (.tup [.ref x.2.1,.ref q]));have T1:=T.same (aA ht (.tup [.ref x.2.1,.ref q]));have g1:aJ G' t (.tup [.ref x.2.1,.ref q]) t=some (.tup [.ref x.2.1,.ref q]):=aB;generalize aJ G' t (.tup [.ref x.2.1,.ref q])=G1 at s1 T1 g1 ⊢;have ts1:TS H G1:=(gN hd).trans (TS.of s1);have hat:yJ [u1,u2] (if sd=true then 1 else 0)=some (if sd=true then u2 else u1):=by cases sd <;> rfl
  have va:cV b H (if sd=true then u2 else u1) (jS sd e):=by cases sd;exact va1;exact va2
  generalize (if sd=true then u2 else u1)=ua at hat va;obtain ⟨ll,L,lz⟩:=T1;exists t,_,rfl,aT.of g1,rfl,_,_,rfl,_,_,rfl,rfl,?_;exists _,rfl,g,rfl,jH L.d,_,rfl,_,rfl,x.2.1,_,_,_,rfl,rfl,aT.of (ts1 _ _ hpt),hat,cT,fun z hz=>?_;have s2:=aA hz (.tup [.int 0,.int 1]);obtain ⟨ll2,L2,lz2⟩:=eT.same ⟨ll,L,lz⟩ s2;have hz2:bP (aJ G1 z (.tup [.int 0,.int 1])) z 0 1:=aB;generalize aJ G1 z (.tup [.int 0,.int 1])=G2 at s2 L2 hz2 ⊢;have ts2:=ts1.trans (TS.of s2);exists _,dY L2.d L2.v (va.ts ts2),?_;obtain ⟨r,er,fr⟩:=L2.get M1 hz2 (jS sd e);rw [er];have b1:0<=fX (ps.take i) l sd (jS sd e)/\fX (ps.take i) l sd (jS sd e)<=(ps.map l).sum:=bd i (jS sd e);have le:=(G.le me).2;exists _,rfl,r,q,_,_,rfl,fr,ts2 _ _ hq,bZ b1.1 (by have:fX (ps.take i) l sd (jS sd e)<=M:=pi b1.2 sM;omega) M1 ∅,bZ (nn e me) ∅ M1 ∅,fun r2 hr2=>?_;rw [eS b1.1 (nn e me) M1];obtain ⟨G3,e3,s3,f3⟩:=aI5 (m:=fX (ps.take i) l sd (jS sd e)+l e) (M:=M) hr2
  rw [e3];obtain ⟨ll3,L3,lz3⟩:=eT.same ⟨ll2,L2,lz2⟩ s3;have s13:=s1.trans (s2.trans s3);have ts3:=ts2.trans (TS.of s3);exists _,rfl,_,rfl,_,rfl,x.2.1,_,_,_,rfl,rfl,aT.of (ts3 _ _ hpt),hat,g,_,rfl,lJ L3.d L3.v (va.ts ts3) (aH ∅),_,_,rfl,iO s13 (by rw [aE ndg.symm];exact hg),(L3.put lz3 va.va f3).eq (qE he).symm
 ·rintro σ G' ⟨v3,v4,rfl,s,T⟩;rw [lx,be] at T;refine .inr ⟨d,o,_,s _ _ aB,(fun o' u' z=>by cases (show some (HO.ext _)=some (HO.frz o' u') from hd.symm.trans z)),(fun _ z=>by cases z),(fun _ z=>by cases z),?_⟩;obtain ⟨ll,L,lz⟩:=T;have tsd:TS G' (aJ G' d (dN P w d xs)):=fun c us e=>by rw [aE (bN e (s _ _ aB) (by intro z;cases z))];exact e
  exact ⟨_,rfl,k _ g (aJ2 hd s) (eT.keep ⟨ll,L,∅⟩ tsd fun u e=>by rw [aE ndg.symm];exact e)⟩
theorem bS1 (m_all:mg "all"=none) (m_range:mg "range"=none) (m_len:mg "len"=none):gX P w K mg base "are_rising" "are_rising" cF7 2 ["answers"] spRiseT:=by
 refine jK ["answers"] fun H Q nd hr h=>?_
 obtain ⟨l,zs,b,as,rfl,hl,tw,h100,k⟩:=h;have hr1:bU 1 _:=hr.mono (by decide);exists _,(aG (aP (pP uS m_all ux (aS (bJ ["k","answers"] [none,some 0] (aQ6 (by rfl) m_range (aC aD (aS (pP cD m_len jb (aS (pv 0)))))) (fun _ _ _ _=>(cW 0)) (fun _ _ _ _=>cN) (fun _ _ _ _=>(pec (bW7 K hr1) (cQ (bE1 K) (pv 1) (aR pF (pv 0) aD)) (cQ (bE1 K) (pv 1) (pv 0))))))))),?_;have ln:=tw.length;exists _,rfl,l,zs,rfl,.inr (aT.of hl),1,(zs.length:Int),rfl,⟨by decide,by decide,∅,∅⟩,mY (lo:=1) (n:=((zs.length:Int) - 1).toNat) (fun i ys σ H2=>H2=H/\(∃ v,σ=[v,some (.ref l)])/\ys=(List.range i).map fun k=>V.bl (ltB as k)) (aH ∅) ⟨rfl,⟨_,rfl⟩,rfl⟩ (by rintro i ys σ H2 ⟨_,_,e⟩;rw [e,ae,xr];omega) ?_ ?_
 ·rintro i ys σ H2 hi ⟨rfl,⟨v',rfl⟩,rfl⟩;have i1:i < zs.length:=∅
  have i2:i+1 < zs.length:=∅
  obtain ⟨a,ha,ax⟩:=tw.at (ak i1);obtain ⟨c,hc,cx⟩:=tw.at (ak i2);exists _,rfl,_,rfl,_,_,rfl,rfl,l,zs,_,_,rfl,rfl,aT.of hl,(show yJ zs (1+(i:Int) - 1)=some zs[i] by rw [show 1+(i:Int) - 1=(i:Int) by omega];exact jB (ak i1)),?_;exists _,rfl,_,rfl,l,zs,_,_,rfl,rfl,aT.of hl,(show yJ zs (1+(i:Int))=some zs[i+1] by rw [show 1+(i:Int)=((i+1:Nat):Int) by omega];exact jB (ak i2)),?_;refine bX4 ax cx ⟨rfl,⟨_,rfl⟩,?_⟩;rw [List.range_succ,bp, <- bU2 ha hc];rfl
 ·rintro ys σ H2 ⟨rfl,_,rfl⟩ l3 hl3;have e:((zs.length:Int) - 1).toNat=as.length - 1:=∅
  rw [e];exists l3,(List.range (as.length - 1)).map (ltB as),rfl,bK.of (by rw [aB,cz];rfl),?_;rw [aX5];exact k _ (aA hl3 _)
theorem bY1 (C_Ech:Cl P w K mg base 4 (aZ9 P w) "come_to_each") (C_Less:Cl P w K mg base 1 spLessF "less") (C_Add:Cl P w K mg base 3 spAdd "added") (C_Times:Cl P w K mg base 3 spTimes "times") (C_Come:Cl P w K mg base 4 spCome "come_to") (m_dict:mg "dict"=none) (m_any:mg "any"=none) (m_all:mg "all"=none) (m_list:mg "list"=none):gX P w K mg base "is_pairing" "is_pairing" cA9 5 ["one","other","pairs","factor","rest","pairing"] (aM4 P w):=by
 refine jK ["one","other","pairs","factor","rest","pairing","may_be","given","taken"] fun H Q nd hr h=>?_
 obtain ⟨b,t1,t2,p3,p4,p5,d,c1,c2,es1,es2,fac,ws3,prs,ps,l,M,rM,rfl,A,m,G,h5,O,k⟩:=h;have hu:=fP hr;refine ⟨_,(gF 6 nd (vH (kJ hr) m_dict fi (aS (bJ ["pair"] [none] (cM (pv 2)) (fun _ _ _ _=>(cW 0)) (fun _ _ _ _=>cN) (fun _ _ _ _=>(aW (aC (pv 0) (aS eV)))))))
  (aI (nP (cE (nC (fZ (pP uS m_all ux (aS (bJ ["pair","share","may_be"] [none,none,some 6] (uJ (pv 5)) (fun _ _ _ _=>(kT K (n:=2) rfl (aL (cW 0) (aL (cW 1) bE)))) (fun _ _ _ _=>cN) (fun _ _ _ _=>(aI4 (bD2 (cB8 P w hr (pv 0) (pv 2))) (aE3 (pec lK (cQ (bE1 K) (pv 1) aD) aD))))))))) (aG (aP eV)) aU))
  (gF 7 nd (cP C_Ech hr (aC (pv 5) (aS aD)))
  (gF 8 nd (cP C_Ech hr (aC (pv 5) (aS aD)))
  (aI (cE (fZ (pP zO m_any aAo (aS (bJ ["x","share","given"] [none,none,some 7] (cM (pv 0)) (fun _ _ _ _=>(kT K (n:=2) rfl (aL (cW 0) (aL (cW 1) bE)))) (fun _ _ _ _=>cN) (fun _ _ _ _=>(cP C_Less hr (aC (pv 1) (aS (fR hu (pv 2) (pv 0) (aW (aC aD (aS aD))) ⟨rfl,rfl,rfl,rfl⟩))))))))) (aG (aP eV)) aU)
  (aI (cE (fZ (pP zO m_any aAo (aS (bJ ["y","share","factor","taken"] [none,none,some 3,some 8] (cM (pv 1)) (fun _ _ _ _=>(kT K (n:=2) rfl (aL (cW 0) (aL (cW 1) bE)))) (fun _ _ _ _=>cN) (fun _ _ _ _=>(cP C_Less hr (aC (cP C_Times hr (aC (pv 2) (aS (pv 1)))) (aS (fR hu (pv 3) (pv 0) (aW (aC aD (aS aD))) ⟨rfl,rfl,rfl,rfl⟩))))))))) (aG (aP eV)) aU)
  (aG (aP (aV6 (cP C_Less hr (aC (cP C_Add hr (aC (cP C_Come hr (aS (vH aD3 m_list jv (aS (zD (pv 5)))))) (aS (pv 4)))) (aS (aW (aC aD (aS aD))))))))))))))),?_⟩
 have Z:=A.scl m;have M1:=m.m1;have M2:=m.m2;have nn:∀ e∈ps,0<=l e:=fun e he=>(G.le he).1
 have sM:=G.s;have zz:=G.z;have r0:=O.r0;have r1:=O.r1;have z3:=A.ly.zp;have l3:=A.tw3.length;exists _,rfl,p3,rfl,⟨_,aT.of A.h3⟩,cC (xs:=ws3) (fun i ys σ G'=>aN H G'/\(∃ v1,σ=[v1])/\bC (PrX b (.bl true) G') ys (prs.take i)) (aH ∅) ⟨aN.refl _,⟨_,rfl⟩,trivial⟩ (by rintro i ys σ G' ⟨_,_,t⟩;rw [t.length,bx];omega) (by rintro i ys σ G' _ ⟨s,_⟩;exact aT.of (s _ _ A.h3)) ?_ ?_
 ·rintro i u ys σ G' hu ⟨s,⟨v1,rfl⟩,t⟩;obtain ⟨e,hi,q,y,z,rfl,hq,vy,vz⟩:=A.tw3.at hu;exists _,rfl,cT,fun r hr'=>⟨s.trans (aA hr' _),⟨_,rfl⟩,?_⟩;have tr:=TS.of (aA hr' (.tup [.ref q,.bl true]));rw [aO hi];exact bC.append (t.mono fun _ _ w=>w.ts tr) ⟨⟨r,q,rfl,aB,sX (tr _ _ (s _ _ hq)) ((vy.ts (TS.of s)).ts tr) ((vz.ts (TS.of s)).ts tr),vy.va,vz.va⟩,trivial⟩
 rintro ys σ G1 ⟨s1,_,t⟩ lq hlq;rw [l3,be] at t;have t2:=t.mono fun _ _ w=>PrX.ts (TS.of (aA hlq (.lst ys))) w
 exists lq,ys,_,rfl,aB,aP2 t2,by rw [ae];unfold prX;rw [ae];exact aH ∅,fun mb H1 hmb D1 k1=>?_;rw [lY (f:=iT b) (l:=prX prs (.bl true)) (by rw [aZ5];exact A.ly.nd) (fun e he e' he' q=>lU (aH8 t2 e he) (aH8 t2 e' he') q)] at D1;have PM:PD P w b H1 mb (prX prs (.bl true)):=⟨D1,aH8 t2⟩
 have sH:aN H H1:=(s1.trans (aA hlq _)).trans fun e o q=>by rw [k1 e (aF q hmb)];exact q
 have hmb0:H mb=none:=s1.free ((aA hlq _).free hmb);clear t t2 D1 k1 hmb hlq s1;obtain ⟨xs,hd,lx,wk⟩:=(G.same sH).h.walk;have nmd:mb≠d:=by
  obtain ⟨ys,h0,_⟩:=G.h.walk;exact (aF h0 hmb0).symm
 obtain ⟨xs0,hdH,_⟩:=G.h.walk;have e0:dN P w d xs=dN P w d xs0:=dm (hd.symm.trans (sH _ _ hdH));exists _,rfl,d,xs,rfl,hd,fun o=>aD5 (P:=P) (w:=w) (d:=d) (o:=o) (xs:=xs) (fun i ys σ G'=>aN (aJ H1 d (.frz o (dN P w d xs))) G'/\(∃ v1 v2,σ=[v1,v2,some (.ref mb)])/\ys=(List.replicate i true).map V.bl) (aH ∅) ⟨aN.refl _,⟨_,_,rfl⟩,rfl⟩ (by rintro i ys σ G' ⟨_,_,e⟩;rw [e,ae,nu];exact ao _) (by rintro i ys σ G' _ ⟨s,_⟩;exact s _ _ aB) ?_ ?_
 ·rintro i x t ys σ G' hx ht ⟨s,⟨v1,v2,rfl⟩,rfl⟩;obtain ⟨e,q,he,eq,hq,t',u1,u2,et,hpt,va1,va2⟩:=wk i x hx;obtain rfl:x.2.1=t':=V.ref.inj et;have me:=bq he;have lp:=G.p e me;rw [eq];have s1:=s.trans (aA ht (.tup [.ref x.2.1,.ref q]));have g1:aJ G' t (.tup [.ref x.2.1,.ref q]) t=some (.tup [.ref x.2.1,.ref q]):=aB;generalize aJ G' t (.tup [.ref x.2.1,.ref q])=G2 at s1 g1 ⊢;have ts1:TS H1 G2:=(gN hd).trans (TS.of s1);exists t,_,rfl,aT.of g1,rfl,_,_,rfl,_,_,rfl,rfl,?_;have gg:=(PM.keep ts1 (fun u z=>s1 _ _ (by rw [aE nmd];exact z))).get (e:=e) (ts1 _ _ hpt) (va1.ts ts1) (va2.ts ts1);rw [show bH (prX prs (.bl true)) e=some (.bl true) from bH9 (O.m e me)] at gg;exists _,rfl,_,rfl,mb,_,rfl,gg,_,rfl,dR (by rfl) ⟨_,rfl,q,_,_,_,rfl,rfl,aT.of (ts1 _ _ hq),tO _ _,_,_,rfl,rfl,s1,⟨_,_,rfl⟩,?_⟩;rw [nU]
  congr 2
  have:=oO lp M1;show V.bl (decide (0 < gD (l e) M))=V.bl true;rw [ar ∅]
 rintro ys σ G' ⟨s,_,rfl⟩ la hla;exists la,List.replicate xs.length true,rfl,bK.of aB,_,rfl,bW (by rw [yW];decide) (.inr ⟨d,o,_,aA hla _ _ _ (s _ _ aB),(fun o' u' z=>by cases (show some (HO.ext _)=some (HO.frz o' u') from hdH.symm.trans z)),(fun _ z=>by cases z),(fun _ z=>by cases z),?_⟩);have s2:=sH.trans (aJ2 hd (s.trans (aA hla (.lst ((List.replicate xs.length true).map V.bl)))));generalize aJ (aJ G' la (.lst ((List.replicate xs.length true).map V.bl))) d (dN P w d xs)=H2 at s2 ⊢;clear s hla wk hd PM hmb0;exists _,rfl,b,d,false,ps,l,M,rfl,G.same s2,fun H3 tg s3 T1=>?_;have s03:=s2.trans s3;exists _,rfl,b,d,true,ps,l,M,rfl,G.same s03,fun H4 tt s4 T2=>?_;have s04:=s03.trans s4;replace T1:=T1.same s4;obtain ⟨us1,h1,tw1⟩:=A.ask.h1;obtain ⟨us2,h2,tw2⟩:=A.ask.h2;have l1:=tw1.length;have l2:=tw2.length;have z1:=A.ask.o1.l2;have z2:=A.ask.o2.l2;have bT:∀ sd x,0<=fX ps l sd x/\fX ps l sd x<=(ps.map l).sum:=fun sd x=>by have:=nO nn (fun e=>decide (jS sd e=x)) ps.length;rw [be] at this;exact this
 exists _,rfl,t1,rfl,⟨_,aT.of (s04 _ _ h1)⟩,cC (xs:=us1) (fun i ys σ G'=>aN H4 G'/\(∃ v1 v2,σ=[v1,v2,some (.ref tg)])/\ys=(List.replicate i false).map V.bl) (aH ∅) ⟨aN.refl _,⟨_,_,rfl⟩,rfl⟩ (by rintro i ys σ G' ⟨_,_,e⟩;rw [e,ae,nu];exact ao _) (by rintro i ys σ G' _ ⟨s,_⟩;exact aT.of (s _ _ (s04 _ _ h1))) ?_ ?_
 ·rintro i u ys σ G' hu ⟨s,⟨v1,v2,rfl⟩,rfl⟩;obtain ⟨e,he,me,t,x,p,rfl,ht,vx,hp⟩:=fY.at tw1 hu;have sG:=s04.trans s;exists t,_,rfl,aT.of (sG _ _ ht),rfl,_,_,rfl,_,_,rfl,rfl,?_;obtain ⟨ll,L,lz⟩:=T1.same s;exists _,rfl,_,rfl,tg,rfl,jH L.d,_,rfl,cT,fun z hz=>?_;have s2:=aA hz (.tup [.int 0,.int 1]);obtain ⟨ll2,L2,lz2⟩:=eT.same ⟨ll,L,lz⟩ s2;exists _,dY L2.d L2.v ((vx.ts (TS.of sG)).ts (TS.of s2)),?_;obtain ⟨r,er,fr⟩:=L2.get M1 (show bP _ z 0 1 from aB) e.1;rw [er];obtain ⟨ev,e1,_⟩:=Z.one me;have hp2:dX (aJ G' z (.tup [.int 0,.int 1])) p (bD es1 M e.1) M:=by unfold dX;rw [<- ev];exact s2 _ _ (sG _ _ hp)
  obtain ⟨B1,B2,B3,B4,el⟩:=Z.cmp1 me (bT false e.1).1 (O.r e me);exists p,r,_,_,_,_,rfl,hp2,fr,B1,B2,B3,B4,?_;rw [el];exact ⟨s.trans s2,⟨_,_,rfl⟩,(nU false i).symm⟩
 rintro ys σ G' ⟨s,_,rfl⟩ la hla;exists la,List.replicate us1.length false,rfl,bK.of aB,_,rfl,bW (by rw [wR];decide) ?_;have s5:=s.trans (aA hla (.lst ((List.replicate us1.length false).map V.bl)));replace T2:=T2.same s5;have s05:=s04.trans s5;generalize aJ G' la (.lst ((List.replicate us1.length false).map V.bl))=H5 at T2 s05 ⊢;clear s5 s hla T1;exists _,rfl,t2,rfl,⟨_,aT.of (s05 _ _ h2)⟩,cC (xs:=us2) (fun i ys σ G'=>aN H5 G'/\(∃ v1 v2,σ=[v1,v2,some (.ref p4),some (.ref tt)])/\ys=(List.replicate i false).map V.bl) (aH ∅) ⟨aN.refl _,⟨_,_,rfl⟩,rfl⟩ (by rintro i ys σ G' ⟨_,_,e⟩;rw [e,ae,nu];exact ao _) (by rintro i ys σ G' _ ⟨s,_⟩;exact aT.of (s _ _ (s05 _ _ h2))) ?_ ?_
 ·rintro i u ys σ G2 hu ⟨s,⟨v1,v2,rfl⟩,rfl⟩;obtain ⟨e,he,me,t,x,p,rfl,ht,vx,hp⟩:=fY.at tw2 hu;have sG:=s05.trans s;exists t,_,rfl,aT.of (sG _ _ ht),rfl,_,_,rfl,_,_,rfl,rfl,?_;have so:=A.ask.o2.at me;exists _,rfl,_,rfl,p4,p,_,_,_,_,rfl,sG _ _ A.ask.hf,sG _ _ hp,A.ask.of.b1.1,A.ask.of.b1.2,so.1.b1.1,so.1.b1.2,A.ask.of.b,so.1.b,fun rt hrt=>?_;have s1:=aA hrt (.tup (eJ (fac.1 * e.2.1) (fac.2 * e.2.2)));obtain ⟨_,_,el2,_⟩:=Z.oth me;have ft:dX (aJ G2 rt (.tup (eJ (fac.1 * e.2.1) (fac.2 * e.2.2)))) rt (bD (bQ fac es2) M e.1) M:=by unfold dX;rw [<- el2];exact aB
  generalize aJ G2 rt (.tup (eJ (fac.1 * e.2.1) (fac.2 * e.2.2)))=G3 at s1 ft ⊢;have s3:=s.trans s1;obtain ⟨ll,L,lz⟩:=T2.same s3;exists _,rfl,tt,rfl,jH L.d,_,rfl,cT,fun z hz=>?_;have s2:=aA hz (.tup [.int 0,.int 1]);obtain ⟨ll2,L2,lz2⟩:=eT.same ⟨ll,L,lz⟩ s2;exists _,dY L2.d L2.v ((vx.ts (TS.of (s05.trans s3))).ts (TS.of s2)),?_;obtain ⟨r,er,fr⟩:=L2.get M1 (show bP _ z 0 1 from aB) e.1;rw [er];obtain ⟨B1,B2,B3,B4,el⟩:=Z.cmp2 me (bT true e.1).1 (O.c e me);exists rt,r,_,_,_,_,rfl,s2 _ _ ft,fr,B1,B2,B3,B4,?_;rw [el];exact ⟨s3.trans s2,⟨_,_,rfl⟩,(nU false i).symm⟩
 rintro ys σ G' ⟨s,_,rfl⟩ la hla;exists la,List.replicate us2.length false,rfl,bK.of aB,_,rfl,bW (by rw [wR];decide) ?_;have s6:=s05.trans (s.trans (aA hla (.lst ((List.replicate us2.length false).map V.bl))));generalize aJ G' la (.lst ((List.replicate us2.length false).map V.bl))=H6 at s6 ⊢;clear s hla T2;obtain ⟨xs6,hd6,lx6,wk6⟩:=(G.same s6).h.walk;exists _,rfl,d,xs6.map (·.2.2),rfl,.inr (.inr ⟨xs6,.inl hd6,rfl⟩),fun vv hvv=>⟨vv,d,xs6.map (·.2.2),rfl,aB,.inr (.inr ⟨xs6,.inl (aA hvv _ _ _ hd6),rfl⟩),fun lv hlv=>?_⟩;have s7:=(aA hvv (kO vv d)).trans (aA hlv (.lst (xs6.map (·.2.2))));have g7:aJ (aJ H6 vv (kO vv d)) lv (.lst (xs6.map (·.2.2))) lv=some (.lst (xs6.map (·.2.2))):=aB;generalize aJ (aJ H6 vv (kO vv d)) lv (.lst (xs6.map (·.2.2)))=H7 at s7 g7 ⊢;have tw7:bC (FrR H7) (xs6.map (·.2.2)) (ps.map fun e=>aK (l e) M):=bC1 (by rw [ae,ae];exact lx6) fun i v f hv hf=>by
  rw [cp] at hv hf;obtain ⟨x,hx,rfl⟩:=ju.mp hv;obtain ⟨e,he,rfl⟩:=ju.mp hf;obtain ⟨e',q,he',eq,hq,_⟩:=wk6 i x hx
  cases dm (he.symm.trans he')
  exact ⟨q,eq,s7 _ _ hq⟩
 have ms:=lE M1 M2 (ps.map l) 0 ∅ (fun m hm=>by obtain ⟨e,he,rfl⟩:=am.mp hm;exact nn e he) ∅;rw [cz,jw,dO M1] at ms;exists lv,xs6.map (·.2.2),ps.map fun e=>aK (l e) M,rfl,g7,tw7,ms.1,fun H8 q8 s8 f8=>?_;rw [show (ps.map fun e=>aK (l e) M).foldl jI (0,1)=aK (ps.map l).sum M from ms.2] at f8;have s08:=(s6.trans s7).trans s8;have sn:=hJ nn;exists _,rfl,q8,p5,_,_,rfl,f8,s08 _ _ h5,bZ sn ∅ M1 ∅,bZ r0 ∅ M1 ∅,fun r9 hr9=>?_;rw [eS sn r0 M1];exists cT,fun z hz=>?_;have s9:=(aA hr9 (.tup [.int (aK ((ps.map l).sum+rM) M).1,.int (aK ((ps.map l).sum+rM) M).2])).trans (aA hz (.tup [.int 1,.int 1]));have f1:dX (aJ (aJ H8 r9 (.tup [.int (aK ((ps.map l).sum+rM) M).1,.int (aK ((ps.map l).sum+rM) M).2])) z (.tup [.int 1,.int 1])) z M M:=by unfold dX;rw [aB7 M1];exact aB
 have F1:=bZ (m:=(ps.map l).sum+rM) (M:=M) ∅ ∅ M1 ∅;have F2:=bZ (m:=M) (M:=M) ∅ ∅ M1 ∅;exists r9,z,_,_,_,_,rfl,aA hz _ _ _ aB,f1,F1.1,F1.2.1,F2.1,F2.2.1,?_;have el:=gQ (m:=(ps.map l).sum+rM) (n:=M) ∅ ∅ M1;unfold ltF at el;rw [el,dk (by have:=O.t;omega)];exact ⟨_,rfl,k _ (s08.trans s9)⟩
theorem bZ0 (C_Come:Cl P w K mg base 4 spCome "come_to") (C_Times:Cl P w K mg base 3 spTimes "times") (C_Less:Cl P w K mg base 1 spLessF "less") (C_Add:Cl P w K mg base 3 spAdd "added") (C_Ris:Cl P w K mg base 2 spRiseT "are_rising") (m_dict:mg "dict"=none) (m_all:mg "all"=none):gX P w K mg base "is_breaking" "is_breaking" cE2 5 ["one","other","pairs","factor","rest","answers"] spIsB:=by
 refine jK ["one","other","pairs","factor","rest","answers","shares","chosen","partners","share","limit"] fun H Q nd hr h=>?_
 obtain ⟨b,t1,t2,p3,p4,p5,ta,c1,c2,es1,es2,fac,ws3,prs,us,as,M,rM,rfl,A,m,ha,ta2,h5,r0,r1,ea,lt,k⟩:=h;have hu:=fP hr;have hr1:bU 1 _:=hr.mono (by decide);refine ⟨_,(gF 6 nd (vH (kK hr1) m_dict fi (aS (pv 0)))
  (aI (cE (PW.pt (tN (nC (fZ (pP uS m_all ux (aS (bJ ["x","shares"] [none,some 6] (cM (pv 5)) (fun _ _ _ _=>(cW 0)) (fun _ _ _ _=>cN) (fun _ _ _ _=>(bD2 (uH hu (pv 0) (pv 1))))))))) (pS (nC (fZ (cP C_Ris hr (aS (pv 5)))))))) (aG (aP eV)) aU)
  (gF 7 nd (vH (nG hr1) m_dict fi (aS (bJ ["x"] [none] (cM (pv 5)) (fun _ _ _ _=>(cW 0)) (fun _ _ _ _=>cN) (fun _ _ _ _=>(aW (aC (pv 0) (aS eV)))))))
  (gF 8 nd (vH (nG hr1) m_dict fi (aS (bJ ["x","y","chosen"] [none,none,some 7] (cM (pv 2)) (fun _ _ _ _=>(kT K (n:=2) rfl (aL (cW 0) (aL (cW 1) bE)))) (fun _ _ _ _=>(gM (lL (uH hu (pv 0) (pv 2))))) (fun _ _ _ _=>(aW (aC (pv 1) (aS eV)))))))
  (gF 9 nd (cP C_Come hr (aS (bJ ["x","shares"] [none,some 6] (cM (pv 5)) (fun _ _ _ _=>(cW 0)) (fun _ _ _ _=>cN) (fun _ _ _ _=>(pdg hu (pv 1) (pv 0))))))
  (gF 10 nd (cP C_Times hr (aC (pv 3) (aS (cP C_Come hr (aS (bJ ["y","part","partners"] [none,none,some 8] (cM (pv 1)) (fun _ _ _ _=>(kT K (n:=2) rfl (aL (cW 0) (aL (cW 1) bE)))) (fun _ _ _ _=>(gM (lL (uH hu (pv 0) (pv 2))))) (fun _ _ _ _=>(pv 1))))))))
  (aG (aP (cP C_Less hr (aC (cP C_Add hr (aC (pv 10) (aS (pv 4)))) (aS (pv 9)))))))))))),?_⟩
 have Z:=A.scl m;have M1:=m.m1;have M2:=m.m2;obtain ⟨us1,h1,tw1⟩:=A.ask.h1;obtain ⟨us2,h2,tw2⟩:=A.ask.h2;have l1:=tw1.length;have l2:=tw2.length;have z1:=A.ask.o1.l2;have z2:=A.ask.o2.l2;have z3:=A.ly.zp;have l3:=A.tw3.length;have la:=ta2.length;have C1:=A.ask.o2.c1;have C2:=A.ask.o2.c2;have las:as.length<=12:=by
  have:=ed List.length ea;have q:=de (eO as) (es1.map (·.1));rw [ae] at q;omega
 have mas:∀ a∈as,∃ e∈es1,e.1=a:=fun a ha'=>by
  rw [ea] at ha';exact am.mp (br.mp ha').1
 have nda:as.Nodup:=by rw [ea];exact A.ask.o1.nd.sublist gq
 have upa:Ups as:=by rw [ea];exact uw gq A.ask.o1.up
 obtain ⟨o,o0,od⟩:=rK (aH ∅) A.ask.o1.nd tw1;exists _,rfl,t1,us1,o,rfl,h1,o0,fun d hd=>⟨(od d hd).1,?_⟩;obtain ⟨_,hD,sD⟩:=od d hd;generalize aJ H d (o us1.length)=H1 at hD sD ⊢;exists _,rfl,ta,rfl,⟨_,aT.of (sD _ _ ha)⟩,cC (xs:=us) (fun i ys σ G'=>G'=H1/\(∃ v1,σ=[v1,some (.ref d)])/\ys=(List.replicate i true).map V.bl) (aH ∅) ⟨rfl,⟨_,rfl⟩,rfl⟩ (by rintro i ys σ G' ⟨_,_,e⟩;rw [e,ae,nu];exact ao _) (by rintro i ys σ G' _ ⟨e,_⟩;rw [e];exact aT.of (sD _ _ ha)) ?_ ?_
 ·rintro i u ys σ G' hu ⟨rfl,⟨v1,rfl⟩,rfl⟩;obtain ⟨a,hia,va⟩:=ta2.at hu;obtain ⟨e,me,rfl⟩:=mas a (bq hia);obtain ⟨p,gp,_⟩:=wW hD (va.ts (TS.of sD)) (mE A.ask.o1.nd e me);exact ⟨_,rfl,_,rfl,d,_,rfl,gp,rfl,⟨_,rfl⟩,(nU true i).symm⟩
 rintro ys σ G' ⟨rfl,_,rfl⟩ lz hlz;exists lz,List.replicate us.length true,rfl,bK.of aB,_,rfl,bW (by rw [yW];decide) ?_;have s2:=sD.trans (aA hlz (.lst ((List.replicate us.length true).map V.bl)));replace hD:=hD.same (aA hlz (.lst ((List.replicate us.length true).map V.bl)));generalize aJ G' lz (.lst ((List.replicate us.length true).map V.bl))=H2 at s2 hD ⊢;exists _,rfl,ta,us,b,as,rfl,s2 _ _ ha,ta2.mono (fun _ _ z=>cV.ts (TS.of s2) z),∅,fun H3 s23=>⟨_,rfl,bW (by rw [zB upa];decide) ?_⟩;have s3:=s2.trans s23;replace hD:=hD.same s23;exists _,rfl,ta,rfl,⟨_,aT.of (s3 _ _ ha)⟩,cC (xs:=us) (fun i ys σ G=>aN H3 G/\(∃ v1,σ=[v1])/\bC (PrA b G) ys ((as.take i).map fun a=>(a,.bl true))) (aH ∅) ⟨aN.refl _,⟨_,rfl⟩,trivial⟩ (by rintro i ys σ G ⟨_,_,t⟩;rw [t.length,ae,bx];omega) (by rintro i ys σ G _ ⟨s,_⟩;exact aT.of (s _ _ (s3 _ _ ha))) ?_ ?_
 ·rintro i u ys σ G hu ⟨s,⟨v1,rfl⟩,t⟩;obtain ⟨a,hia,va⟩:=ta2.at hu;exists _,rfl,cT,fun r hr'=>⟨s.trans (aA hr' _),⟨_,rfl⟩,?_⟩;have tr:=TS.of (aA hr' (.tup [u,.bl true]));rw [aO hia,bp];exact bC.append (t.mono (by rintro _ _ ⟨c,w,w1,w2,w3⟩;exact ⟨c,w,w1,tr _ _ w2,w3.ts tr⟩)) ⟨⟨r,u,rfl,aB,(va.ts (TS.of (s3.trans s))).ts tr⟩,trivial⟩
 rintro ys4 σ4 G4 ⟨s4,_,t4⟩ lc hlc;rw [la,be] at t4;have ly:=t4.length;rw [ae] at ly;have tl4:=TS.of (aA hlc (.lst ys4));have vas:∀ e∈as.map (fun a=>(a,V.bl true)),VA b e.1:=fun e he=>by
  obtain ⟨a,ha',rfl⟩:=am.mp he;exact yG ta2 a ha'
 exists lc,ys4,fun i=>dB b ((as.map fun a=>(a,V.bl true)).take i),rfl,aB,rH b,fun dc hdc=>⟨tW (t4.mono (by rintro _ _ ⟨c,w,w1,w2,w3⟩;exact ⟨c,w,w1,tl4 _ _ w2,w3.ts tl4⟩)) (by rw [cz];exact (wv _).symm ▸ nda) (aH (by rw [ae];omega)) hdc vas,?_⟩;have eA:(as.map fun a=>(a,V.bl true)).take ys4.length=as.map fun a=>(a,V.bl true):=jx (by rw [ae];omega)
 dsimp only
 rw [eA];have s5:=s4.trans ((aA hlc (.lst ys4)).trans (aA hdc (dB b (as.map fun a=>(a,V.bl true)))));have hc5:aJ (aJ G4 lc (.lst ys4)) dc (dB b (as.map fun a=>(a,V.bl true))) dc=some (dB b (as.map fun a=>(a,V.bl true))):=aB;generalize aJ (aJ G4 lc (.lst ys4)) dc (dB b (as.map fun a=>(a,V.bl true)))=H5 at s5 hc5 ⊢;replace hD:=hD.same s5;replace s5:=s3.trans s5;have cin:∀ x,bH (as.map fun a=>(a,V.bl true)) x=if eO as x=true then some (.bl true) else none:=fun x=>by
  by_cases c:x∈as
  ·rw [bh (show eO as x=true from ar c)];exact bL0 c
  ·rw [ap (show ¬ eO as x=true from fun z=>c (cf z))];exact bH5 c
 exists _,rfl,p3,rfl,⟨_,aT.of (s5 _ _ A.h3)⟩,cC (xs:=ws3) (fun i ys σ G=>aN H5 G/\(∃ v1 v2,σ=[v1,v2,some (.ref dc)])/\bC (PrA b G) ys (((prs.take i).filter fun e=>eO as e.1).map fun e=>(e.2,.bl true))) (aH ∅) ⟨aN.refl _,⟨_,_,rfl⟩,trivial⟩ (by rintro i ys σ G ⟨_,_,t⟩;rw [t.length,ae];exact cy (de _ _) (by rw [bx];omega)) (by rintro i ys σ G _ ⟨s,_⟩;exact aT.of (s _ _ (s5 _ _ A.h3))) ?_ ?_
 ·rintro i u ys σ G hu ⟨s,⟨v1,v2,rfl⟩,t⟩;obtain ⟨e,he,tt,a1,a2,rfl,hh,va1,va2⟩:=A.tw3.at hu;have sG:=s5.trans s;exists tt,_,rfl,aT.of (sG _ _ hh),rfl,_,_,rfl,_,_,rfl,rfl,?_;have dg:=dY (s _ _ hc5) vas (va1.ts (TS.of sG));rw [cin] at dg;exists _,rfl,_,rfl,dc,_,rfl,dg,_,rfl,?_;rw [aO he,fk,bp]
  by_cases c:eO as e.1=true
  ·rw [bh c];refine dR rfl ⟨_,rfl,cT,fun r hr'=>⟨s.trans (aA hr' _),⟨_,_,rfl⟩,?_⟩⟩;have tr:=TS.of (aA hr' (.tup [a2,.bl true]));rw [fb (p:=fun e:Pr2=>eO as e.1) c,eu];exact bC.append (t.mono (by rintro _ _ ⟨c,w,w1,w2,w3⟩;exact ⟨c,w,w1,tr _ _ w2,w3.ts tr⟩)) ⟨⟨r,a2,rfl,aB,(va2.ts (TS.of sG)).ts tr⟩,trivial⟩
  ·rw [ap c];refine bW (by decide) ⟨s,⟨_,_,rfl⟩,?_⟩;rw [dz (p:=fun e:Pr2=>eO as e.1) c,eu,jf,fw];exact t
 rintro ys6 σ6 G6 ⟨s6,_,t6⟩ lp hlp;rw [l3,be] at t6;have ly6:=t6.length;have lf6:((prs.filter fun e=>eO as e.1).map fun e=>(e.2,V.bl true)).length<=200:=by rw [ae];exact cy (de _ _) z3
 have tl6:=TS.of (aA hlp (.lst ys6));have vps:∀ e∈(prs.filter fun e=>eO as e.1).map (fun e=>(e.2,V.bl true)),VA b e.1:=fun e he=>by
  obtain ⟨f,hf,rfl⟩:=am.mp he;exact aD9 tw2 _ (A.ly.pr f (br.mp hf).1).2
 exists lp,ys6,fun i=>dB b (mP (((prs.filter fun e=>eO as e.1).map fun e=>(e.2,V.bl true)).take i)),rfl,aB,rH b,fun dp hdp=>⟨aS4 (t6.mono (by rintro _ _ ⟨c,w,w1,w2,w3⟩;exact ⟨c,w,w1,tl6 _ _ w2,w3.ts tl6⟩)) (aH ∅) hdp vps,?_⟩
 dsimp only
 rw [ly6,be];generalize eF:mP ((prs.filter fun e=>eO as e.1).map fun e=>(e.2,V.bl true))=F;have s7:=s6.trans ((aA hlp (.lst ys6)).trans (aA hdp (dB b F)));have hp7:aJ (aJ G6 lp (.lst ys6)) dp (dB b F) dp=some (dB b F):=aB;generalize aJ (aJ G6 lp (.lst ys6)) dp (dB b F)=H7 at s7 hp7 ⊢;replace hD:=hD.same s7;replace s7:=s5.trans s7;have vF:∀ e∈F,VA b e.1:=by rw [<- eF];exact vC _ [] vps (fun _ z=>absurd z cu)
 have pin:∀ y,(bH F y).isSome=kI prs (eO as) y:=fun y=>by
  rw [jn, <- eF];unfold mP;rw [tU];unfold kI;rw [fy]
  constructor
  ·rintro (h | h)
   ·rw [cz] at h;obtain ⟨f,hf,q⟩:=am.mp h;obtain ⟨f1,f2⟩:=br.mp hf;exact ⟨f,f1,by rw [ig];exact ⟨ar q,f2⟩⟩
   ·cases h
  ·rintro ⟨f,hf,q⟩;rw [ig] at q;exact .inl (by rw [cz];exact am.mpr ⟨f,br.mpr ⟨hf,q.2⟩,cf q.1⟩)
 have gb:∀ a,0<=bD es1 M a:=Z.nn1;have sumA:(as.map (bD es1 M)).sum=hM es1 M as:=by unfold hM oK;rw [<- ea]
 have n0:=Z.hb as;exists _,rfl,ta,rfl,⟨_,aT.of (s7 _ _ ha)⟩,cC (xs:=us) (fun i ys σ G=>G=H7/\(∃ v1,σ=[v1,some (.ref d)])/\bC (FrR H7) ys ((as.take i).map fun a=>aK (bD es1 M a) M)) (aH ∅) ⟨rfl,⟨_,rfl⟩,trivial⟩ (by rintro i ys σ G ⟨_,_,t⟩;rw [t.length,ae,bx];omega) (by rintro i ys σ G _ ⟨e,_⟩;rw [e];exact aT.of (s7 _ _ ha)) ?_ ?_
 ·rintro i u ys σ G hu ⟨rfl,⟨v1,rfl⟩,t⟩;obtain ⟨a,hia,va⟩:=ta2.at hu;obtain ⟨e,me,rfl⟩:=mas a (bq hia);obtain ⟨p,gp,tp⟩:=wW hD (va.ts (TS.of s7)) (mE A.ask.o1.nd e me);exists _,rfl,_,rfl,d,_,rfl,gp,rfl,⟨_,rfl⟩,?_;rw [aO hia,bp];exact bC.append t ⟨⟨p,rfl,by show bP _ p (aK (bD es1 M e.1) M).1 (aK (bD es1 M e.1) M).2;rw [<- (Z.one me).1];exact tp⟩,trivial⟩
 rintro ys8 σ8 G8 ⟨rfl,_,t8⟩ ls hls;rw [la,be] at t8;have ms:=lE M1 M2 (as.map (bD es1 M)) 0 ∅ (fun m hm=>by obtain ⟨e,he,rfl⟩:=am.mp hm;exact gb e) (by rw [sumA];omega);rw [cz,jw,dO M1,sumA] at ms;have sl:=aA hls (.lst ys8);exists ls,ys8,as.map fun a=>aK (bD es1 M a) M,rfl,aB,t8.mono (by rintro _ _ ⟨q,e1,e2⟩;exact ⟨q,e1,sl _ _ e2⟩),ms.1,fun H9 q9 s9 f9=>?_;rw [show (as.map fun a=>aK (bD es1 M a) M).foldl jI (0,1)=aK (hM es1 M as) M from ms.2] at f9;have s89:=sl.trans s9;have hp9:=s89 _ _ hp7;have s09:=s7.trans s89;have nnc:=Z.nnc;have nb:=nN (kI prs (eO as)) (l:=es2.map (·.1)) nnc (es2.map (·.1)).length;rw [be,rG A.ask.o2] at nb;exists _,rfl,_,rfl,t2,rfl,⟨_,aT.of (s09 _ _ h2)⟩,cC (xs:=us2) (fun i ys σ G=>G=H9/\(∃ v1 v2,σ=[v1,v2,some (.ref dp)])/\bC (FrR H9) ys ((((es2.map (·.1)).take i).filter (kI prs (eO as))).map fun y=>aK (bD es2 c2 y) c2)) (aH ∅) ⟨rfl,⟨_,_,rfl⟩,trivial⟩ (by rintro i ys σ G ⟨_,_,t⟩;rw [t.length,ae];exact cy (de _ _) (by rw [bx];omega)) (by rintro i ys σ G _ ⟨e,_⟩;rw [e];exact aT.of (s09 _ _ h2)) ?_ ?_
 ·rintro i u ys σ G hu ⟨rfl,⟨v1,v2,rfl⟩,t⟩;obtain ⟨e,he,me,tt,y,p,rfl,ht,vy,hp⟩:=fY.at tw2 hu;exists tt,_,rfl,aT.of (s09 _ _ ht),rfl,_,_,rfl,_,_,rfl,rfl,?_;exists _,rfl,_,rfl,dp,_,rfl,dY hp9 vF (vy.ts (TS.of s09)),_,rfl,?_;rw [pin,aO (kE (f:=fun e:En=>e.1) he),fk,bp]
  by_cases c:kI prs (eO as) e.1=true
  ·refine dR c ⟨_,rfl,rfl,⟨_,_,rfl⟩,?_⟩;rw [fb c,eu];exact bC.append t ⟨⟨p,rfl,by show bP _ p (aK (bD es2 c2 e.1) c2).1 (aK (bD es2 c2 e.1) c2).2;rw [<- (Z.oth me).1];exact s09 _ _ hp⟩,trivial⟩
  ·refine bW c ⟨rfl,⟨_,_,rfl⟩,?_⟩;rw [dz c,eu,jf,fw];exact t
 rintro ysA σA GA ⟨rfl,_,tA⟩ lA hlA;rw [l2,show es2.length=(es2.map (·.1)).length from (ae ..).symm,be] at tA;have mA:=lE C1 ∅ (((es2.map (·.1)).filter (kI prs (eO as))).map (bD es2 c2)) 0 ∅ (fun m hm=>by obtain ⟨e,he,rfl⟩:=am.mp hm;exact nnc e) ∅;rw [cz,jw,dO C1] at mA;have sA:=aA hlA (.lst ysA);exists lA,ysA,((es2.map fun e:En=>e.1).filter (kI prs (eO as))).map fun y=>aK (bD es2 c2 y) c2,rfl,aB,tA.mono (by rintro _ _ ⟨q,e1,e2⟩;exact ⟨q,e1,sA _ _ e2⟩),mA.1,fun HB qB sB fB=>?_;rw [show (((es2.map (·.1)).filter (kI prs (eO as))).map fun y=>aK (bD es2 c2 y) c2).foldl jI (0,1)=aK (((es2.map (·.1)).filter (kI prs (eO as))).map (bD es2 c2)).sum c2 from mA.2] at fB;have sAB:=sA.trans sB;have s0B:=s09.trans sAB;have fq:=bZ nb.1 (show _ < (2:Int) ^ 180 by omega) C1 (show c2 < 2 ^ 180 by omega);have et:=Z.et prs as
 exists p4,qB,_,_,_,_,rfl,s0B _ _ A.ask.hf,fB,A.ask.of.b1.1,A.ask.of.b1.2,fq.1,fq.2.1,A.ask.of.b,fq.2.2,fun rC hrC=>?_;have sC:=aA hrC (.tup (eJ (fac.1 * (aK (((es2.map (·.1)).filter (kI prs (eO as))).map (bD es2 c2)).sum c2).1) (fac.2 * (aK (((es2.map (·.1)).filter (kI prs (eO as))).map (bD es2 c2)).sum c2).2)));have fC:dX (aJ HB rC (.tup (eJ (fac.1 * (aK (((es2.map (·.1)).filter (kI prs (eO as))).map (bD es2 c2)).sum c2).1) (fac.2 * (aK (((es2.map (·.1)).filter (kI prs (eO as))).map (bD es2 c2)).sum c2).2)))) rC (tM prs es2 fac M as) M:=by unfold dX;rw [<- et];exact aB
 have s0C:=s0B.trans sC;have f9C:=sC _ _ (sAB _ _ f9);generalize aJ HB rC (.tup (eJ (fac.1 * (aK (((es2.map (·.1)).filter (kI prs (eO as))).map (bD es2 c2)).sum c2).1) (fac.2 * (aK (((es2.map (·.1)).filter (kI prs (eO as))).map (bD es2 c2)).sum c2).2)))=HC at fC s0C f9C ⊢;have t0:=Z.tb prs as;exists _,rfl,_,rfl,rC,p5,_,_,rfl,fC,s0C _ _ h5,bZ t0.1 ∅ M1 ∅,bZ r0 ∅ M1 ∅,fun rE hrE=>?_;rw [eS t0.1 r0 M1];have sE:=aA hrE (.tup [.int (aK (tM prs es2 fac M as+rM) M).1,.int (aK (tM prs es2 fac M as+rM) M).2]);have F1:=bZ (m:=tM prs es2 fac M as+rM) (M:=M) ∅ ∅ M1 ∅;have F2:=bZ (m:=hM es1 M as) (M:=M) n0.1 ∅ M1 ∅;exists _,rfl,rE,q9,_,_,_,_,rfl,aB,sE _ _ f9C,F1.1,F1.2.1,F2.1,F2.2.1,?_;have el:=gQ (m:=tM prs es2 fac M as+rM) (n:=hM es1 M as) ∅ n0.1 M1;unfold ltF at el;rw [el,ar ∅];exact k _ (s0C.trans sE)
theorem bT3 (C_IsP:Cl P w K mg base 5 (aM4 P w) "is_pairing") (C_IsB:Cl P w K mg base 5 spIsB "is_breaking"):gX P w K mg base "shows" "shows" bZ4 6 ["one","other","pairs","factor","rest","told"] (xU P w):=by
 refine jK ["one","other","pairs","factor","rest","told"] fun H Q nd hr h=>?_
 obtain ⟨b,t1,t2,p3,p4,p5,r,c1,c2,es1,es2,fac,ws3,prs,M,rM,bk,rfl,A,m,h5,r0,r1,T,k⟩:=h;refine ⟨_,(aI (cE (iL iR (cQ aM (pv 5) aD) cK) (aG (aP (cP C_IsP hr (aC (pv 0) (aC (pv 1) (aC (pv 2) (aC (pv 3) (aC (pv 4) (aS (cQ aM (pv 5) aD)))))))))) aU)
  (aI (cE (iL iR (cQ aM (pv 5) aD) cK) (aG (aP (cP C_IsB hr (aC (pv 0) (aC (pv 1) (aC (pv 2) (aC (pv 3) (aC (pv 4) (aS (cQ aM (pv 5) aD)))))))))) aU)
  (aG (aP eV)))),?_⟩
 rcases T with ⟨rfl,d,ps,l,hr,G,O⟩ | ⟨rfl,t,us,as,hr,ht,tu,ea,lt⟩
 ·exists _,rfl,r,_,_,_,rfl,rfl,aT.of hr,rfl,rfl,_,rfl,dR (by decide +kernel) ?_;exact ⟨_,rfl,_,rfl,_,rfl,_,rfl,_,rfl,_,rfl,r,_,_,_,rfl,rfl,aT.of hr,rfl,b,t1,t2,p3,p4,p5,d,c1,c2,es1,es2,fac,ws3,prs,ps,l,M,rM,rfl,A,m,G,h5,O,k⟩
 ·exists _,rfl,r,_,_,_,rfl,rfl,aT.of hr,rfl,rfl,_,rfl,bW (by decide +kernel) ?_;exists _,rfl,r,_,_,_,rfl,rfl,aT.of hr,rfl,rfl,_,rfl,dR (by decide +kernel) ?_;exact ⟨_,rfl,_,rfl,_,rfl,_,rfl,_,rfl,_,rfl,r,_,_,_,rfl,rfl,aT.of hr,rfl,b,t1,t2,p3,p4,p5,t,c1,c2,es1,es2,fac,ws3,prs,us,as,M,rM,rfl,A,m,ht,tu,h5,r0,r1,ea,lt,k⟩
theorem bF2 (C_Plus:Cl P w K mg base 2 spPlus "_law_plus") (C_Blw:Cl P w K mg base 1 spLessF "_law_below") (C_LTim:Cl P w K mg base 2 spTimes "_law_times"):gX P w K mg base "_law_is_pairing" "_law_is_pairing" bP6 3 ["_law_one","_law_other","_law_pairs_here","_law_factor_here","_law_rest_here","_law_shares_here"] (aM4 P w):=by
 refine jK ["_law_one","_law_other","_law_pairs_here","_law_factor_here","_law_rest_here","_law_shares_here","_law_spent","_law_came","_law_come","_law_pair","_law_share","_law_x","_law_y"] fun H Q nd hr h=>?_
 obtain ⟨b,t1,t2,p3,p4,p5,d,c1,c2,es1,es2,fac,ws3,prs,ps,l,M,rM,rfl,A,m,G,h5,O,k⟩:=h;have hu:=fP hr;have hr2:bU 2 _:=hr.mono (by decide);refine ⟨_,(gF 6 nd (bL2 b)
  (gF 7 nd (bL2 b)
  (gF 8 nd (pv 4)
  (aI (nP (wK (uJ (pv 5)) (gC rfl (aL (cW 9 nd) (aL (cW 10 nd) bE)))
  (aI (cE (PW.pt (tN (iL (bH3 K hr) (pv 9) (pv 2)) (pS (iL mW (cQ aM (pv 10) aD) aD)))) (aG (aP eV)) aU)
  (aI (pdp hu (pv 6) (cQ aM (pv 9) aD) (cP C_Plus hr (aC (fR hu (pv 6) (cQ aM (pv 9) aD) (aW (aC aD (aS aD))) ⟨rfl,rfl,rfl,rfl⟩) (aS (pv 10)))))
  (aI (pdp hu (pv 7) (cQ aM (pv 9) aD) (cP C_Plus hr (aC (fR hu (pv 7) (cQ aM (pv 9) aD) (aW (aC aD (aS aD))) ⟨rfl,rfl,rfl,rfl⟩) (aS (pv 10)))))
  (aG (psz 8 nd (cP C_Plus hr (aC (pv 8) (aS (pv 10)))))))))))
  (aI (wK (cM (pv 0)) (gC rfl (aL (cW 11 nd) (aL (cW 10 nd) bE)))
  (aG (cE (fZ (cP C_Blw hr (aC (pv 10) (aS (fR hu (pv 6) (pv 11) (aW (aC aD (aS aD))) ⟨rfl,rfl,rfl,rfl⟩))))) (aG (aP eV)) aU)))
  (aI (wK (cM (pv 1)) (gC rfl (aL (cW 12 nd) (aL (cW 10 nd) bE)))
  (aG (cE (fZ (cP C_Blw hr (aC (cP C_LTim hr (aC (pv 3) (aS (pv 10)))) (aS (fR hu (pv 7) (pv 12) (aW (aC aD (aS aD))) ⟨rfl,rfl,rfl,rfl⟩))))) (aG (aP eV)) aU)))
  (aG (aP (aV6 (cP C_Blw hr (aC (pv 8) (aS (aW (aC aD (aS aD))))))))))))))),?_⟩
 obtain ⟨xs,hd,lx,wk⟩:=G.h.walk;have Z:=A.scl m;have M1:=m.m1;have M2:=m.m2;have nn:∀ e∈ps,0<=l e:=fun e he=>(G.le he).1
 have sM:=G.s;have zz:=G.z;have r0:=O.r0;have r1:=O.r1;have bd:∀ i sd x,0<=fX (ps.take i) l sd x/\fX (ps.take i) l sd x<=(ps.map l).sum:=fun i sd x=>nO nn (fun e=>decide (jS sd e=x)) i
 have bs:∀ i,0<=((ps.take i).map l).sum/\((ps.take i).map l).sum<=(ps.map l).sum:=fun i=>by
  have:=nO nn (fun _=>true) i;rw [List.filter_eq_self.mpr fun _ _=>rfl] at this;exact this
 refine fun g hg=>fun g2 hg2=>⟨_,rfl,?_⟩
 have hg2':H g2=none:=(aA hg _).free hg2;have ngg:g≠g2:=fun z=>by rw [<- z,aB] at hg2;cases hg2
 have ndg:d≠g:=aF hd hg;have ndg2:d≠g2:=aF hd hg2';have s00:aN H (aJ (aJ H g (dB b [])) g2 (dB b [])):=(aA hg _).trans (aA hg2 _);have T01:eT b (aJ (aJ H g (dB b [])) g2 (dB b [])) g (fun _=>0) M 0:=(eT.start hg).same (aA hg2 _);have T02:eT b (aJ (aJ H g (dB b [])) g2 (dB b [])) g2 (fun _=>0) M 0:=eT.start hg2;generalize aJ (aJ H g (dB b [])) g2 (dB b [])=H0 at s00 T01 T02 ⊢;have hd0:=s00 _ _ hd;have kz:∀ {o:Obj}{c:Addr}{u:HO},c≠d->H0 c=some u->aJ H0 d (.frz o (dN P w d xs)) c=some u:=fun n e=>by rw [aE n];exact e
 exists _,rfl,d,xs,rfl,hd0,fun o=>vK (P:=P) (w:=w) (d:=d) (o:=o) (xs:=xs) (fun i σ G'=>∃ qc v9 v10,σ=[some (.ref t1),some (.ref t2),some (.ref p3),some (.ref p4),some (.ref p5),some (.ref d),some (.ref g),some (.ref g2),some (.ref qc),v9,v10,none,none]/\aN (aJ H d (.frz o (dN P w d xs))) G'/\eT b G' g (fX (ps.take i) l false) M i/\eT b G' g2 (fX (ps.take i) l true) M i/\dX G' qc (rM+((ps.take i).map l).sum) M) ⟨p5,none,none,rfl,?_,?_,?_,?_⟩ (by rintro i σ G' _ ⟨_,_,_,_,s,_⟩;exact s _ _ aB) ?_ ?_
 ·exact fun c u e=>by
   by_cases cd:c=d
   ·subst cd;rw [aB] at e ⊢;exact e
   ·rw [aE cd] at e ⊢;exact s00 _ _ e
 ·exact (T01.keep (gN hd0) (fun u e=>kz ndg.symm e)).eq (funext fun _=>rfl)
 ·exact (T02.keep (gN hd0) (fun u e=>kz ndg2.symm e)).eq (funext fun _=>rfl)
 ·rw [aAj,jf,List.sum_nil,sv];exact gN hd0 _ _ (s00 _ _ h5)
 ·rintro i x t σ G' hx ht ⟨qc,v9,v10,rfl,s,T1,T2,fc⟩;obtain ⟨e,q,he,eq,hq,t',u1,u2,et,hpt,va1,va2⟩:=wk i x hx;obtain rfl:x.2.1=t':=V.ref.inj et;have me:=bq he;have li:=(bw.mp he).1;have le:=G.le me;have lp:=G.p e me;rw [eq];have st:=aA ht (.tup [.ref x.2.1,.ref q]);have s1:=s.trans st;replace T1:=T1.same st;replace T2:=T2.same st;replace fc:dX _ qc _ M:=st _ _ fc;have g1:aJ G' t (.tup [.ref x.2.1,.ref q]) t=some (.tup [.ref x.2.1,.ref q]):=aB;generalize aJ G' t (.tup [.ref x.2.1,.ref q])=G1 at s1 T1 T2 fc g1 ⊢;have ts1:TS H G1:=(gN hd).trans (TS.of s1);exists t,_,rfl,aT.of g1,rfl,_,_,rfl,_,_,rfl,rfl,?_;have A1:=A.ts ts1;exists _,rfl,_,rfl,bQ7 A1.h3 A1.tw3 ⟨x.2.1,u1,u2,rfl,ts1 _ _ hpt,va1.ts ts1,va2.ts ts1⟩ ⟨_,rfl,bW (by rw [ar (O.m e me)];decide) ⟨_,rfl,q,_,_,_,rfl,rfl,aT.of (ts1 _ _ hq),tO _ _,_,_,rfl,rfl,_,rfl,bW (by have:=oO lp M1;simp only [decide_eq_true_eq];show ¬ gD (l e) M < 1;omega) ?_⟩⟩
  obtain ⟨ll,L,lz⟩:=T1;exists _,rfl,g,rfl,jH L.d,_,rfl,x.2.1,_,_,_,rfl,rfl,aT.of (ts1 _ _ hpt),rfl,cT,fun z hz=>?_;have s2:=aA hz (.tup [.int 0,.int 1]);obtain ⟨ll2,L2,lz2⟩:=eT.same ⟨ll,L,lz⟩ s2;have hz2:bP (aJ G1 z (.tup [.int 0,.int 1])) z 0 1:=aB;replace T2:=T2.same s2;replace fc:dX _ qc _ M:=s2 _ _ fc;replace s1:=s1.trans s2;generalize aJ G1 z (.tup [.int 0,.int 1])=G2 at L2 hz2 T2 fc s1 ⊢;clear s2 hz;have ts2:TS H G2:=(gN hd).trans (TS.of s1);exists _,dY L2.d L2.v (va1.ts ts2),?_;obtain ⟨r,er,fr⟩:=L2.get M1 hz2 e.1;rw [er];have b1:=bd i false e.1;exists _,rfl,r,q,_,_,rfl,fr,ts2 _ _ hq,bZ b1.1 (by have:=b1.2;omega) M1 ∅,bZ le.1 ∅ M1 ∅,fun r2 hr2=>?_;rw [eS b1.1 le.1 M1];obtain ⟨G3,e3,s3,f3⟩:=aI5 (m:=fX (ps.take i) l false e.1+l e) (M:=M) hr2;rw [e3];obtain ⟨ll3,L3,lz3⟩:=eT.same ⟨ll2,L2,lz2⟩ s3;replace T2:=T2.same s3;replace fc:dX _ qc _ M:=s3 _ _ fc;replace s1:=s1.trans s3
  clear s3 hr2;have ts3:TS H G3:=(gN hd).trans (TS.of s1);exists _,rfl,_,rfl,x.2.1,_,_,_,rfl,rfl,aT.of (ts3 _ _ hpt),rfl,g,_,rfl,lJ L3.d L3.v (va1.ts ts3) (aH ∅),?_;have P1:eT b _ g (fX (ps.take (i+1)) l false) M (i+1):=(L3.put lz3 va1.va f3).eq (qE (sd:=false) he).symm;have tg:TS G3 (aJ G3 g (dB b (bF ll3 e.1 (.ref r2)))):=fun c us e=>by rw [aE (bN e L3.d lH)];exact e
  replace T2:=T2.keep tg (fun u e=>by rw [aE ngg.symm];exact e);replace fc:dX _ qc _ M:=tg _ _ fc;replace s1:aN _ (aJ G3 g (dB b (bF ll3 e.1 (.ref r2)))):=iO s1 (by rw [aE ndg.symm];exact hg);generalize aJ G3 g (dB b (bF ll3 e.1 (.ref r2)))=G4 at P1 T2 fc s1 ⊢;clear L3 f3 L2 fr hz2 tg L ts1 ts2 ts3 A1 g1;have ts4:TS H G4:=(gN hd).trans (TS.of s1);obtain ⟨kk,L,lz⟩:=T2;exists _,rfl,g2,rfl,jH L.d,_,rfl,x.2.1,_,_,_,rfl,rfl,aT.of (ts4 _ _ hpt),rfl,cT,fun z2 hz=>?_;have s2:=aA hz (.tup [.int 0,.int 1]);obtain ⟨kk2,L2,lz2⟩:=eT.same ⟨kk,L,lz⟩ s2;have hz2:bP (aJ G4 z2 (.tup [.int 0,.int 1])) z2 0 1:=aB;replace P1:=P1.same s2;replace fc:dX _ qc _ M:=s2 _ _ fc;replace s1:=s1.trans s2;generalize aJ G4 z2 (.tup [.int 0,.int 1])=G5 at L2 hz2 P1 fc s1 ⊢;clear s2 hz;have ts5:TS H G5:=(gN hd).trans (TS.of s1);exists _,dY L2.d L2.v (va2.ts ts5),?_;obtain ⟨r',er,fr⟩:=L2.get M1 hz2 e.2;rw [er];have b2:=bd i true e.2
  exists _,rfl,r',q,_,_,rfl,fr,ts5 _ _ hq,bZ b2.1 (by have:=b2.2;omega) M1 ∅,bZ le.1 ∅ M1 ∅,fun r3 hr3=>?_;rw [eS b2.1 le.1 M1];obtain ⟨G6,e3,s3,f3⟩:=aI5 (m:=fX (ps.take i) l true e.2+l e) (M:=M) hr3;rw [e3];obtain ⟨kk3,L3,lz3⟩:=eT.same ⟨kk2,L2,lz2⟩ s3;replace P1:=P1.same s3;replace fc:dX _ qc _ M:=s3 _ _ fc;replace s1:=s1.trans s3;clear s3 hr3;have ts6:TS H G6:=(gN hd).trans (TS.of s1);exists _,rfl,_,rfl,x.2.1,_,_,_,rfl,rfl,aT.of (ts6 _ _ hpt),rfl,g2,_,rfl,lJ L3.d L3.v (va2.ts ts6) (aH ∅),?_;have P2:eT b _ g2 (fX (ps.take (i+1)) l true) M (i+1):=(L3.put lz3 va2.va f3).eq (qE (sd:=true) he).symm;have tg:TS G6 (aJ G6 g2 (dB b (bF kk3 e.2 (.ref r3)))):=fun c us e=>by rw [aE (bN e L3.d lH)];exact e
  replace P1:=P1.keep tg (fun u e=>by rw [aE ngg];exact e);replace fc:dX _ qc _ M:=tg _ _ fc;replace s1:aN _ (aJ G6 g2 (dB b (bF kk3 e.2 (.ref r3)))):=iO s1 (by rw [aE ndg2.symm];exact hg2');generalize aJ G6 g2 (dB b (bF kk3 e.2 (.ref r3)))=G7 at P1 P2 fc s1 ⊢;have ts7:TS H G7:=(gN hd).trans (TS.of s1);have b3:=bs i;exists _,rfl,_,rfl,qc,q,_,_,rfl,fc,ts7 _ _ hq,bZ ∅ ∅ M1 ∅,bZ le.1 ∅ M1 ∅,fun r4 hr4=>⟨r4,_,_,rfl,s1.trans (aA hr4 _),P1.same (aA hr4 _),P2.same (aA hr4 _),?_⟩;rw [aO he,bp,rg, <- Int.add_assoc];unfold dX;rw [show ([e].map l).sum=l e by simp, <- eS ∅ le.1 M1];exact aB
 rintro σ G' ⟨qc,v9,v10,rfl,s,T1,T2,fc⟩;rw [lx,be] at T1 T2 fc;refine .inr ⟨d,o,_,s _ _ aB,(fun o' u' z=>by cases (show some (HO.ext _)=some (HO.frz o' u') from hd.symm.trans z)),(fun _ z=>by cases z),(fun _ z=>by cases z),?_⟩;have tsd:TS G' (aJ G' d (dN P w d xs)):=fun c us e=>by rw [aE (bN e (s _ _ aB) (by intro z;cases z))];exact e
 have sH:=aJ2 hd s;replace T1:=T1.keep tsd fun u e=>by rw [aE ndg.symm];exact e
 replace T2:=T2.keep tsd fun u e=>by rw [aE ndg2.symm];exact e
 replace fc:dX _ qc _ M:=tsd _ _ fc;generalize aJ G' d (dN P w d xs)=H1 at sH T1 T2 fc ⊢;clear tsd s;obtain ⟨us1,h1,tw1⟩:=A.ask.h1;obtain ⟨us2,h2,tw2⟩:=A.ask.h2;have bT:∀ sd x,0<=fX ps l sd x/\fX ps l sd x<=(ps.map l).sum:=fun sd x=>by have:=bd ps.length sd x;rwa [be] at this
 exists _,rfl,t1,rfl,⟨_,aT.of (sH _ _ h1)⟩,iV (xs:=us1) (fun i σ G'=>∃ v10 v11,σ=[some (.ref t1),some (.ref t2),some (.ref p3),some (.ref p4),some (.ref p5),some (.ref d),some (.ref g),some (.ref g2),some (.ref qc),v9,v10,v11,none]/\aN H1 G') ⟨v10,none,rfl,aN.refl _⟩ (by rintro i σ G' _ ⟨_,_,_,s⟩;exact aT.of (s _ _ (sH _ _ h1))) ?_ ?_
 ·rintro i u σ G' hu ⟨v10,v11,rfl,s⟩;obtain ⟨e,he,me,t,x,p,rfl,ht,vx,hp⟩:=fY.at tw1 hu;have sG:=sH.trans s;exists t,_,rfl,aT.of (sG _ _ ht),rfl,_,_,rfl,_,_,rfl,rfl,?_;obtain ⟨ll,L,lz⟩:=T1.same s;exists _,rfl,_,rfl,g,rfl,jH L.d,_,rfl,cT,fun z hz=>?_;have s2:=aA hz (.tup [.int 0,.int 1]);obtain ⟨ll2,L2,lz2⟩:=eT.same ⟨ll,L,lz⟩ s2;exists _,dY L2.d L2.v ((vx.ts (TS.of sG)).ts (TS.of s2)),?_;obtain ⟨r,er,fr⟩:=L2.get M1 (show bP _ z 0 1 from aB) e.1;rw [er];obtain ⟨ev,e1,_⟩:=Z.one me;have hp2:dX (aJ G' z (.tup [.int 0,.int 1])) p (bD es1 M e.1) M:=by unfold dX;rw [<- ev];exact s2 _ _ (sG _ _ hp)
  obtain ⟨B1,B2,B3,B4,el⟩:=Z.cmp1 me (bT false e.1).1 (O.r e me);exists p,r,_,_,_,_,rfl,hp2,fr,B1,B2,B3,B4,?_;rw [el];exact ⟨_,rfl,bW (by decide) ⟨_,_,rfl,s.trans s2⟩⟩
 rintro σ G' ⟨v10',v11,rfl,s⟩;replace sH:=sH.trans s;replace T2:=T2.same s;replace fc:dX G' qc _ M:=s _ _ fc;clear s T1;exists _,rfl,t2,rfl,⟨_,aT.of (sH _ _ h2)⟩,iV (xs:=us2) (fun i σ G2=>∃ v10 v12,σ=[some (.ref t1),some (.ref t2),some (.ref p3),some (.ref p4),some (.ref p5),some (.ref d),some (.ref g),some (.ref g2),some (.ref qc),v9,v10,v11,v12]/\aN G' G2) ⟨v10',none,rfl,aN.refl _⟩ (by rintro i σ G2 _ ⟨_,_,_,s⟩;exact aT.of (s _ _ (sH _ _ h2))) ?_ ?_
 ·rintro i u σ G2 hu ⟨v10,v12,rfl,s⟩;obtain ⟨e,he,me,t,x,p,rfl,ht,vx,hp⟩:=fY.at tw2 hu;have sG:=sH.trans s;exists t,_,rfl,aT.of (sG _ _ ht),rfl,_,_,rfl,_,_,rfl,rfl,?_;have so:=A.ask.o2.at me;exists _,rfl,_,rfl,p4,p,_,_,_,_,rfl,sG _ _ A.ask.hf,sG _ _ hp,A.ask.of.b1.1,A.ask.of.b1.2,so.1.b1.1,so.1.b1.2,A.ask.of.b,so.1.b,fun rt hrt=>?_;have s1:=aA hrt (.tup (eJ (fac.1 * e.2.1) (fac.2 * e.2.2)));obtain ⟨_,_,el2,_⟩:=Z.oth me;have ft:dX (aJ G2 rt (.tup (eJ (fac.1 * e.2.1) (fac.2 * e.2.2)))) rt (bD (bQ fac es2) M e.1) M:=by unfold dX;rw [<- el2];exact aB
  generalize aJ G2 rt (.tup (eJ (fac.1 * e.2.1) (fac.2 * e.2.2)))=G3 at s1 ft ⊢;have s3:=s.trans s1;obtain ⟨ll,L,lz⟩:=T2.same s3;exists _,rfl,g2,rfl,jH L.d,_,rfl,cT,fun z hz=>?_;have s2:=aA hz (.tup [.int 0,.int 1]);obtain ⟨ll2,L2,lz2⟩:=eT.same ⟨ll,L,lz⟩ s2;exists _,dY L2.d L2.v ((vx.ts (TS.of (sH.trans s3))).ts (TS.of s2)),?_;obtain ⟨r,er,fr⟩:=L2.get M1 (show bP _ z 0 1 from aB) e.1;rw [er];obtain ⟨B1,B2,B3,B4,el⟩:=Z.cmp2 me (bT true e.1).1 (O.c e me);exists rt,r,_,_,_,_,rfl,s2 _ _ ft,fr,B1,B2,B3,B4,?_;rw [el];exact ⟨_,rfl,bW (by decide) ⟨_,_,rfl,s3.trans s2⟩⟩
 rintro σ G2 ⟨v10,v12,rfl,s⟩;replace fc:dX G2 qc _ M:=s _ _ fc;exists _,rfl,cT,fun z hz=>?_;have s2:=aA hz (.tup [.int 1,.int 1]);have f1:dX (aJ G2 z (.tup [.int 1,.int 1])) z M M:=by unfold dX;rw [aB7 M1];exact aB
 have sn:=bs ps.length;rw [be] at sn;have F1:=bZ (m:=rM+(ps.map l).sum) (M:=M) ∅ ∅ M1 ∅;have F2:=bZ (m:=M) (M:=M) ∅ ∅ M1 ∅;exists qc,z,_,_,_,_,rfl,s2 _ _ fc,f1,F1.1,F1.2.1,F2.1,F2.2.1,?_;have el:=gQ (m:=rM+(ps.map l).sum) (n:=M) ∅ ∅ M1;unfold ltF at el;rw [el,dk (by have:=O.t;omega)];exact ⟨_,rfl,k _ ((sH.trans s).trans s2)⟩
theorem bR2 (C_LIsP:Cl P w K mg base 3 (aM4 P w) "_law_is_pairing") (C_Brk:Cl P w K mg base 4 spBrk "_law_breaks") (C_LLow:Cl P w K mg base 1 spLow "_law_lowest") (m_isinstance:mg "isinstance"=none) (m_tuple:mg "tuple"=none) (m_len:mg "len"=none) (m_dict:mg "dict"=none) (m_repr:mg "repr"=none) (m_min:mg "min"=none):gX P w K mg base "_law_good" "_law_good" cB4 5 ["_law_one","_law_other","_law_pairs_here","_law_factor_here","_law_rest_here","_law_told"] (xU P w):=by
 refine jK ["_law_one","_law_other","_law_pairs_here","_law_factor_here","_law_rest_here","_law_told","_law_share"] fun H Q nd hr h=>?_
 obtain ⟨b,t1,t2,p3,p4,p5,r,c1,c2,es1,es2,fac,ws3,prs,M,rM,bk,rfl,A,m,h5,r0,r1,T,k⟩:=h;have hr1:bU 1 _:=hr.mono (by decide);have hr3:bU 3 _:=hr.mono (by decide);refine ⟨_,(aI (cE (PW.pt (tN (nC (fZ (pP lD m_isinstance mi (aC (pv 5) (aS (rZ (v:= .ty "tuple") (by rfl) m_tuple gy rfl)))))) (pS (iL uO (pP cD m_len jb (aS (pv 5))) aD)))) (aG (aP eV)) aU)
  (aI (cE (iL iR (cQ aM (pv 5) aD) cK) (aG (aP (aI4 (pP lD m_isinstance mi (aC (cQ aM (pv 5) aD) (aS (rZ (v:= .ty "tuple") (by rfl) m_tuple gy rfl)))) (aE3 (cP C_Brk hr (aC (pv 0) (aC (pv 1) (aC (pv 2) (aC (pv 3) (aC (pv 4) (aS (cQ aM (pv 5) aD)))))))))))) aU)
  (aI (cE (PW.pt (tN (iL uO (cQ aM (pv 5) aD) cK) (pS (nC (fZ (pP aN7 m_isinstance mi (aC (cQ aM (pv 5) aD) (aS (rZ (v:= .ty "dict") (by rfl) m_dict fi rfl))))))))) (aG (aP eV)) aU)
  (aI (nP (wK (bF0 (cQ aM (pv 5) aD)) (cW 6 nd)
  (aI (cE (PW.pt (tN (nC (fZ (pP lD m_isinstance mi (aC (pv 6) (aS (rZ (v:= .ty "tuple") (by rfl) m_tuple gy rfl)))))) (tN (iL uO (pP cD m_len jb (aS (pv 6))) aD) (pS (iL mW (pP aF2 m_min aAm (aS (pv 6))) aD))))) (aG (aP eV)) aU)
  (aG (cE (iL uO (pP (uG hr1) m_repr aAd (aS (pv 6))) (pP (uG hr1) m_repr aAd (aS (cP C_LLow hr (aC (cQ aM (pv 6) aD) (aS (cQ aM (pv 6) aD))))))) (aG (aP eV)) aU)))))
  (aG (aP (cP C_LIsP hr (aC (pv 0) (aC (pv 1) (aC (pv 2) (aC (pv 3) (aC (pv 4) (aS (cQ aM (pv 5) aD)))))))))))))),?_⟩
 rcases T with ⟨rfl,d,ps,l,hr',G,O⟩ | ⟨rfl,t,us,as,hr',ht,tu,ea,lt⟩
 ·exists _,rfl,_,_,_,true,rfl,.tup hr',rfl,_,rfl,bW (by decide) ?_;exists _,rfl,r,_,rfl,.inr (aT.of hr'),rfl,_,rfl,bW (by simp) ?_;exists _,rfl,r,_,_,_,rfl,rfl,aT.of hr',rfl,rfl,_,rfl,bW (by decide +kernel) ?_;obtain ⟨xs,hd,lx,wk⟩:=G.h.walk;exists _,rfl,r,_,_,_,rfl,rfl,aT.of hr',rfl,rfl,_,rfl,bW (by decide +kernel) ⟨_,rfl,r,_,_,_,rfl,rfl,aT.of hr',rfl,d,_,true,xs,rfl,hd,rfl,_,rfl,bW (by decide) ?_⟩;have M1:=m.m1;have M2:=m.m2;exists _,rfl,r,_,_,_,rfl,rfl,aT.of hr',rfl,d,xs,rfl,hd,fun o=>aT3 (P:=P) (w:=w) (d:=d) (o:=o) (xs:=xs) (fun i σ G'=>∃ v6,σ=[some (.ref t1),some (.ref t2),some (.ref p3),some (.ref p4),some (.ref p5),some (.ref r),v6]/\aN (aJ H d (.frz o (dN P w d xs))) G') ⟨none,rfl,aN.refl _⟩ (by rintro i σ G' _ ⟨_,_,s⟩;exact s _ _ aB) ?_ ?_
  ·rintro i x σ G' hx ⟨v6,rfl,s⟩;obtain ⟨e,q,he,eq,hq,_⟩:=wk i x hx;have me:=bq he;have lp:=G.p e me;have le:=G.le me;rw [eq];have ts1:TS H G':=(gN hd).trans (TS.of s);have hq1:bP G' q (aK (l e) M).1 (aK (l e) M).2:=ts1 _ _ hq;have F:=bZ (m:=l e) (M:=M) le.1 ∅ M1 ∅;have p1:1<=(aK (l e) M).1:=oO lp M1;have p2:1<=(aK (l e) M).2:=F.2.2;have e1:gD (aK (l e) M).1 (aK (l e) M).2=(aK (l e) M).1:=ed Prod.fst (uI le.1 M1);have e2:eQ (aK (l e) M).1 (aK (l e) M).2=(aK (l e) M).2:=ed Prod.snd (uI le.1 M1);have bl1:gE (aK (l e) M).1:=⟨∅,by have:=F.1.2;omega⟩
   have bl2:gE (aK (l e) M).2:=⟨∅,by have:=F.2.1.2;omega⟩
   have cb:(aK (l e) M).2 < 2 ^ 180:=F.2.1.2;clear F;generalize (aK (l e) M).1=a at hq1 p1 e1 e2 bl1;generalize (aK (l e) M).2=c at hq1 p2 e1 e2 bl2 cb;exists _,rfl,_,_,_,true,rfl,.tup hq1,rfl,_,rfl,bW (by decide) ?_;exists _,rfl,q,_,rfl,.inr (aT.of hq1),rfl,_,rfl,bW (by simp) ?_;exists _,rfl,q,[a,c],rfl,aT.of hq1,by simp,fun n hn=>⟨_,_,rfl,rfl,_,rfl,bW ?_ ?_⟩
   ·have:1<=n:=by
     rcases bo.mp hn with z | z
     ·omega
     ·have:=ck.mp z;omega
    simp only [decide_eq_true_eq];omega
   have sh:=aZ2 (o:=some (a,c)) fun f hf=>by cases hf;exact ⟨bl1,bl2⟩
   exists _,rfl,aF1 (some (a,c)),q,rfl,aM9 ⟨q,rfl,hq1⟩,sh.1,sh.2.1,sh.2.2.1,sh.2.2.2,?_;exists _,rfl,q,_,_,_,rfl,rfl,aT.of hq1,tO a c,_,rfl,q,_,_,_,rfl,rfl,aT.of hq1,mS a c,a,c,rfl,∅,p2,pk cb (by decide),fun r2 hr2=>?_;have hr3:bP (aJ G' r2 (.tup (eJ a c))) r2 a c:=by unfold bP;rw [aB];unfold eJ;rw [e1,e2]
   have s3:=aA hr2 (.tup (eJ a c));generalize aJ G' r2 (.tup (eJ a c))=G3 at hr3 s3 ⊢;exists aF1 (some (a,c)),r2,rfl,aM9 ⟨r2,rfl,hr3⟩,sh.1,sh.2.1,sh.2.2.1,sh.2.2.2,rfl,_,rfl,bW (by simp) ⟨_,rfl,s.trans s3⟩
  ·rintro σ G' ⟨v6,rfl,s⟩;refine .inr ⟨d,o,_,s _ _ aB,(fun o' u' z=>by cases (show some (HO.ext _)=some (HO.frz o' u') from hd.symm.trans z)),(fun _ z=>by cases z),(fun _ z=>by cases z),?_⟩;have sH:=aJ2 hd s;generalize aJ G' d (dN P w d xs)=H1 at sH ⊢;exact ⟨_,rfl,_,rfl,_,rfl,_,rfl,_,rfl,_,rfl,r,_,_,_,rfl,rfl,aT.of (sH _ _ hr'),rfl,b,t1,t2,p3,p4,p5,d,c1,c2,es1,es2,fac,ws3,prs,ps,l,M,rM,rfl,A.ts (TS.of sH),m,G.same sH,sH _ _ h5,O,fun H' s'=>k H' (sH.trans s')⟩
 ·exists _,rfl,_,_,_,true,rfl,.tup hr',rfl,_,rfl,bW (by decide) ?_;exists _,rfl,r,_,rfl,.inr (aT.of hr'),rfl,_,rfl,bW (by simp) ?_;exists _,rfl,r,_,_,_,rfl,rfl,aT.of hr',rfl,rfl,_,rfl,dR (by decide +kernel) ?_;exact ⟨_,rfl,r,_,_,_,rfl,rfl,aT.of hr',rfl,_,_,_,true,rfl,.tup ht,rfl,_,rfl,dR (by rfl) ⟨_,rfl,_,rfl,_,rfl,_,rfl,_,rfl,_,rfl,r,_,_,_,rfl,rfl,aT.of hr',rfl,b,t1,t2,p3,p4,p5,t,c1,c2,es1,es2,fac,ws3,prs,us,as,M,rM,rfl,A,m,ht,tu,h5,r0,r1,ea,lt,k⟩⟩
theorem bW5 (C_Ovr:Cl P w K mg base 3 spOver "_law_over") (C_Blw:Cl P w K mg base 1 spLessF "_law_below") (C_Plus:Cl P w K mg base 2 spPlus "_law_plus") (m_list:mg "list"=none):gX P w K mg base "_law_breaks" "_law_breaks" cH0 4 ["_law_one","_law_other","_law_pairs_here","_law_factor_here","_law_rest_here","_law_answers"] spBrk:=by
 refine jK ["_law_one","_law_other","_law_pairs_here","_law_factor_here","_law_rest_here","_law_answers","_law_here","_law_there"] fun H Q nd hr h=>?_
 obtain ⟨b,t1,t2,p3,p4,p5,ta,c1,c2,es1,es2,fac,ws3,prs,us,as,M,rM,rfl,A,m,ha,ta2,h5,r0,r1,ea,lt,k⟩:=h;have hu:=fP hr;have hr1:bU 1 _:=hr.mono (by decide);have hr2:bU 2 _:=hr.mono (by decide);refine ⟨_,(aI (cE (iL (aE6 hr) (vH hZ m_list jv (aS (pv 5))) (bJ ["_law_x","_law_share","_law_answers"] [none,none,some 5] (cM (pv 0)) (fun _ _ _ _=>(kT K (n:=2) rfl (aL (cW 0) (aL (cW 1) bE)))) (fun _ _ _ _=>(gM (iL (aD2 K hr) (pv 0) (pv 2)))) (fun _ _ _ _=>(pv 0)))) (aG (aP eV)) aU)
  (aI (qH (cP C_Ovr hr (aC (pv 0) (aC (pv 1) (aC (pv 2) (aC (pv 3) (aS (pv 5))))))) (gC rfl (aL (cW 6 nd) (aL (cW 7 nd) bE))))
  (aG (aP (cP C_Blw hr (aC (cP C_Plus hr (aC (pv 4) (aS (pv 7)))) (aS (pv 6)))))))),?_⟩
 have Z:=A.scl m;obtain ⟨us1,h1,tw1⟩:=A.ask.h1;have l1:=tw1.length;have z1:=A.ask.o1.l2;have M1:=m.m1;have M2:=m.m2;exists _,rfl,ta,us,rfl,.inr (aT.of ha),fun la hla=>?_;obtain ⟨H0,e0,s0,h0⟩:=lay hla (.lst us);rw [e0];clear e0;exists _,rfl,t1,rfl,⟨_,aT.of (s0 _ _ h1)⟩,cC (xs:=us1) (fun k zs σ G'=>G'=H0/\(∃ v1 v2,σ=[v1,v2,some (.ref ta)])/\bC (cV b H0) zs (((es1.take k).map (·.1)).filter (eO as))) (aH ∅) ⟨rfl,⟨_,_,rfl⟩,trivial⟩ (by rintro k zs σ G' ⟨_,_,t⟩;rw [t.length];exact cy (de _ _) (by rw [ae,bx];omega)) (by rintro k zs σ G' _ ⟨e,_⟩;rw [e];exact aT.of (s0 _ _ h1)) ?_ ?_
 ·rintro i u zs σ G hu ⟨rfl,⟨v1,v2,rfl⟩,tz⟩;obtain ⟨e,he,me,t,x,p,rfl,ht,vx,hp⟩:=fY.at tw1 hu;exists t,_,rfl,aT.of (s0 _ _ ht),rfl,_,_,rfl,_,_,rfl,rfl,?_;exists _,rfl,_,rfl,aG6 (s0 _ _ ha) (ta2.mono fun _ _ z=>cV.ts (TS.of s0) z) (vx.ts (TS.of s0)) ⟨_,rfl,?_⟩;rw [aO he,bp,fk,show [e].map (·.1)=[e.1] from rfl]
  by_cases c:e.1∈as
  ·have ci:eO as e.1=true:=ar c;refine dR ci ⟨_,rfl,rfl,⟨_,_,rfl⟩,?_⟩;rw [fb ci,eu];exact bC.append tz ⟨vx.ts (TS.of s0),trivial⟩
  ·have ci:¬ eO as e.1=true:=fun z=>c (cf z)
   refine bW ci ⟨rfl,⟨_,_,rfl⟩,?_⟩;rw [dz ci,eu,fw];exact tz
 rintro zs σ G ⟨rfl,_,tz⟩ lz hlz;rw [l1,be, <- ea] at tz;have s1:=aA hlz (.lst zs);refine bD5 (s1 _ _ h0) (ta2.mono fun _ _ z=>cV.ts (TS.of (s0.trans s1)) z) aB (tz.mono fun _ _ z=>cV.ts (TS.of s1) z) ⟨_,rfl,bW (by rw [ar rfl];decide) ?_⟩;have sH:=s0.trans s1;generalize aJ G lz (.lst zs)=H1 at sH ⊢;exists _,rfl,_,rfl,_,rfl,_,rfl,_,rfl,b,t1,t2,p3,p4,ta,c1,c2,es1,es2,fac,ws3,prs,us,as,M,rfl,A.ts (TS.of sH),m,sH _ _ ha,ta2.mono (fun _ _ z=>cV.ts (TS.of sH) z),fun H2 r q1 q2 s2 hr1 f1 f2=>?_;have t0:=Z.tb prs as;have n0:=Z.hb as;exists r,_,rfl,aT.of hr1,rfl,_,_,rfl,_,_,rfl,rfl,?_;have h52:dX H2 p5 rM M:=s2 _ _ (sH _ _ h5);exists _,rfl,_,rfl,p5,q2,_,_,rfl,h52,f2,bZ r0 ∅ M1 ∅,bZ t0.1 ∅ M1 ∅,fun r2 hr2=>?_;rw [eS r0 t0.1 M1];have s3:=aA hr2 (.tup [.int (aK (rM+tM prs es2 fac M as) M).1,.int (aK (rM+tM prs es2 fac M as) M).2]);have F1:=bZ (m:=rM+tM prs es2 fac M as) (M:=M) ∅ ∅ M1 ∅
 have F2:=bZ (m:=hM es1 M as) (M:=M) n0.1 ∅ M1 ∅;exists _,rfl,r2,q1,_,_,_,_,rfl,aB,s3 _ _ f1,F1.1,F1.2.1,F2.1,F2.2.1,?_;have e:=gQ (m:=rM+tM prs es2 fac M as) (n:=hM es1 M as) ∅ n0.1 M1;unfold ltF at e;rw [e,ar lt];exact k _ ((sH.trans s2).trans s3)
theorem bV0 (C_Ovr:Cl P w K mg base 3 spOver "_law_over") (C_Blw:Cl P w K mg base 1 spLessF "_law_below") (C_Plus:Cl P w K mg base 2 spPlus "_law_plus") (C_LLow:Cl P w K mg base 1 spLow "_law_lowest"):gX P w K mg base "_law_worst" "_law_worst" bZ1 4 ["_law_one","_law_other","_law_pairs_here","_law_factor_here"] spWst:=by
 refine jK ["_law_one","_law_other","_law_pairs_here","_law_factor_here","_law_found","_law_sets","_law_x","_law_share","_law_some","_law_here","_law_there"] fun H Q nd hr h=>?_
 obtain ⟨b,t1,t2,p3,p4,c1,c2,es1,es2,fac,ws3,prs,M,rfl,A,m,wb,k⟩:=h;have hu:=fP hr;have hr1:bU 1 _:=hr.mono (by decide);have hr2:bU 2 _:=hr.mono (by decide);refine ⟨_,(gF 4 nd (aW (aC aD (aS aD)))
  (gF 5 nd (fF (aS (aW gO)))
  (aI (wK (cM (pv 0)) (gC rfl (aL (cW 6 nd) (aL (cW 7 nd) bE)))
  (aG (psz 5 nd (aR xG (pv 5) (bJ ["_law_some","_law_x"] [none,some 6] (cH (pv 5)) (fun _ _ _ _=>(cW 0)) (fun _ _ _ _=>cN) (fun _ _ _ _=>(aR (cD3 K) (pv 0) (aW (aS (pv 1))))))))))
  (aI (wK (cH (pv 5)) (cW 8 nd)
  (aI (qH (cP C_Ovr hr (aC (pv 0) (aC (pv 1) (aC (pv 2) (aC (pv 3) (aS (pv 8))))))) (gC rfl (aL (cW 9 nd) (aL (cW 10 nd) bE))))
  (aG (cE (fZ (cP C_Blw hr (aC (cP C_Plus hr (aC (pv 10) (aS (pv 4)))) (aS (pv 9))))) (aG (psz 4 nd (cP C_LLow hr (aC (aR pF (aR bX (cQ aM (pv 9) aD) (cQ aM (pv 10) aD)) (aR bX (cQ aM (pv 10) aD) (cQ aM (pv 9) aD))) (aS (aR bX (cQ aM (pv 9) aD) (cQ aM (pv 10) aD))))))) aU))))
  (aG (aP (pv 4))))))),?_⟩
 have Z:=A.scl m;obtain ⟨us1,h1,tw1⟩:=A.ask.h1;have l1:=tw1.length;have z1:=A.ask.o1.l2;have M1:=m.m1;have M2:=m.m2;exists cT,fun f0 hf0=>?_;have s0:=aA hf0 (.tup [.int 0,.int 1]);have g0:dX (aJ H f0 (.tup [.int 0,.int 1])) f0 0 M:=by unfold dX;rw [dO M1];exact aB
 generalize aJ H f0 (.tup [.int 0,.int 1])=H0 at s0 g0 ⊢;exists df _,fun e0 he0=>⟨aV5,fun ls hls=>?_⟩;have s1:=(aA he0 (.tup [])).trans (aA hls (.lst [.ref e0]));have gs:aJ (aJ H0 e0 (.tup [])) ls (.lst [.ref e0]) ls=some (.lst [.ref e0]):=aB;have ge:aJ (aJ H0 e0 (.tup [])) ls (.lst [.ref e0]) e0=some (.tup []):=aA hls _ _ _ aB;have g1:dX (aJ (aJ H0 e0 (.tup [])) ls (.lst [.ref e0])) f0 0 M:=s1 _ _ g0;have s01:=s0.trans s1;generalize aJ (aJ H0 e0 (.tup [])) ls (.lst [.ref e0])=H1 at s01 gs ge g1 ⊢;exists _,rfl,t1,rfl,⟨_,aT.of (s01 _ _ h1)⟩,iV (xs:=us1) (fun i σ G=>∃ ls ss v6 v7,σ=[some (.ref t1),some (.ref t2),some (.ref p3),some (.ref p4),some (.ref f0),some (.ref ls),v6,v7,none,none,none]/\aN H1 G/\G ls=some (.lst ss)/\bC (yF b G) ss (eY ((es1.map (·.1)).take i))) ⟨ls,[.ref e0],none,none,rfl,aN.refl _,gs,⟨e0,[],rfl,ge,trivial⟩,trivial⟩ (by rintro i σ G _ ⟨_,_,_,_,_,s,_⟩;exact aT.of (s _ _ (s01 _ _ h1))) ?_ ?_
 ·rintro i u σ G hu ⟨ls,ss,v6,v7,rfl,s,gl,tw⟩;obtain ⟨e,he,me,t,x,p,rfl,ht,vx,hp⟩:=fY.at tw1 hu;have li:=(bw.mp he).1;have sG:=s01.trans s;have hke:(es1.map (·.1))[i]?=some e.1:=kE he;have lss:ss.length=2 ^ i:=by rw [tw.length,bC6,bx,ae];congr 1;omega
  have li2:(2:Nat) ^ i<=2 ^ 12:=aAx (by decide) ∅;exists t,_,rfl,aT.of (sG _ _ ht),rfl,_,_,rfl,_,_,rfl,rfl,?_;exists _,rfl,_,rfl,ls,rfl,⟨_,bK.of gl⟩,cR (xs:=ss) (fun k zs σ G'=>aN G G'/\(∃ v1,σ=[v1,some x])/\bC (yF b G') zs (((eY ((es1.map (·.1)).take i)).take k).map (· ++[e.1]))) (bP1 ∅) ⟨aN.refl _,⟨_,rfl⟩,trivial⟩ (by rintro k zs σ G' ⟨_,_,t⟩;rw [t.length,ae,bx];omega) (by rintro k zs σ G' _ ⟨s,_⟩;exact bK.of (s _ _ gl)) ?_ ?_
  ·rintro k v zs σ G' hv ⟨s',⟨v1,rfl⟩,tz⟩;obtain ⟨as,has,tt,us,rfl,hh,tu⟩:=tw.at hv;have las:=bJ5 (bq has);rw [bx,ae] at las;have lus:=tu.length;have vx':=vx.ts (TS.of (sG.trans s'));exists _,rfl,_,rfl,aV5,fun t5 ht5=>?_;have s5:=aA ht5 (.tup [x]);have vx5:=vx'.ts (TS.of s5);have hh5:=s5 _ _ (s' _ _ hh);have tu5:=tu.mono fun _ _ z=>cV.ts (TS.of (s'.trans s5)) z
   exists tt,t5,us,[x],rfl,rfl,aT.of hh5,aT.of aB,by simp,by show us.length+1<=sizeLine;exact iz (aH ∅),fun z=>?_,fun z r hr'=>?_
   ·subst z;exists s'.trans s5,⟨_,rfl⟩,?_;rw [aO has,bp];have an:as=[]:=by cases as with | nil=>rfl | cons _ _=>exact tu5.elim
    exact bC.append (tz.mono fun _ _ z=>yF.ts (TS.of s5) z) ⟨⟨t5,[x],rfl,aB,by rw [an];exact ⟨vx5,trivial⟩⟩,trivial⟩
   ·have sr:=aA hr' (.tup (us++[x]));exists (s'.trans s5).trans sr,⟨_,rfl⟩,?_;rw [aO has,bp];exact bC.append (tz.mono fun _ _ z=>yF.ts (TS.of (s5.trans sr)) z) ⟨⟨r,us++[x],rfl,aB,bC.append (tu5.mono fun _ _ z=>cV.ts (TS.of sr) z) ⟨vx5.ts (TS.of sr),trivial⟩⟩,trivial⟩
  ·rintro zs σ G' ⟨s',_,tz⟩ lz hlz;rw [tw.length,be] at tz;have lzs:zs.length=2 ^ i:=by rw [tz.length,ae, <- tw.length];exact lss
   exists ls,lz,_,_,rfl,rfl,aA hlz _ _ _ (s' _ _ gl),aB,iz (bP1 ∅),fun l5 hl5=>?_;have s5:=(aA hlz (.lst zs)).trans (aA hl5 (.lst (ss++zs)));exists l5,ss++zs,_,_,rfl,s.trans (s'.trans s5),aB,?_;rw [aO hke,mG];exact bC.append (tw.mono fun _ _ z=>yF.ts (TS.of (s'.trans s5)) z) (tz.mono fun _ _ z=>yF.ts (TS.of s5) z)
 rintro σ G ⟨ls,ss,v6,v7,rfl,s,gl,tw⟩;rw [l1,show es1.length=(es1.map (·.1)).length from (ae ..).symm,be] at tw;have sG:=s01.trans s;have gf:dX G f0 0 M:=s _ _ g1;exists _,rfl,ls,rfl,⟨_,bK.of gl⟩,gW (xs:=ss) (fun i σ G'=>∃ q v8 v9 v10,σ=[some (.ref t1),some (.ref t2),some (.ref p3),some (.ref p4),some (.ref q),some (.ref ls),v6,v7,v8,v9,v10]/\aN G G'/\dX G' q (((eY (es1.map (·.1))).take i).foldl (gG prs (es1.map (·.1)) (es2.map (·.1)) (bD es1 M) (bD (bQ fac es2) M)) 0) M) ⟨f0,none,none,none,rfl,aN.refl _,gf⟩ (by rintro i σ G' _ ⟨_,_,_,_,_,s,_⟩;exact bK.of (s _ _ gl)) ?_ ?_
 ·rintro i v σ G' hv ⟨q,v8,v9,v10,rfl,s',hq⟩;obtain ⟨as,has,tt,us,rfl,hh,tu⟩:=tw.at hv;have sH:=sG.trans s';exists _,rfl,_,rfl,_,rfl,_,rfl,_,rfl,b,t1,t2,p3,p4,tt,c1,c2,es1,es2,fac,ws3,prs,us,as,M,rfl,A.ts (TS.of sH),m,s' _ _ hh,tu.mono (fun _ _ z=>cV.ts (TS.of s') z),fun H2 r q1 q2 s2 hr1 f1 f2=>?_;have t0:=Z.tb prs as;have n0:=Z.hb as;have w0:=wb i;have ew:((eY (es1.map (·.1))).take (i+1)).foldl (gG prs (es1.map (·.1)) (es2.map (·.1)) (bD es1 M) (bD (bQ fac es2) M)) 0=if tM prs es2 fac M as+((eY (es1.map (·.1))).take i).foldl (gG prs (es1.map (·.1)) (es2.map (·.1)) (bD es1 M) (bD (bQ fac es2) M)) 0 < hM es1 M as then hM es1 M as - tM prs es2 fac M as else ((eY (es1.map (·.1))).take i).foldl (gG prs (es1.map (·.1)) (es2.map (·.1)) (bD es1 M) (bD (bQ fac es2) M)) 0:=by
   rw [aO has,ot];rfl
  rw [ew];generalize ((eY (es1.map (·.1))).take i).foldl (gG prs (es1.map (·.1)) (es2.map (·.1)) (bD es1 M) (bD (bQ fac es2) M)) 0=W at hq w0 ⊢;generalize tM prs es2 fac M as=T at *;generalize hM es1 M as=N at *;exists r,_,rfl,aT.of hr1,rfl,_,_,rfl,_,_,rfl,rfl,?_;have hq2:dX H2 q W M:=s2 _ _ hq;exists _,rfl,_,rfl,q2,q,_,_,rfl,f2,hq2,bZ t0.1 ∅ M1 ∅,bZ w0.1 ∅ M1 ∅,fun r2 hr2=>?_;rw [eS t0.1 w0.1 M1];have s3:=aA hr2 (.tup [.int (aK (T+W) M).1,.int (aK (T+W) M).2]);have F1:=bZ (m:=T+W) (M:=M) ∅ ∅ M1 ∅;have F2:=bZ (m:=N) (M:=M) n0.1 ∅ M1 ∅;have F3:=bZ (m:=T) (M:=M) t0.1 ∅ M1 ∅;exists _,rfl,r2,q1,_,_,_,_,rfl,aB,s3 _ _ f1,F1.1,F1.2.1,F2.1,F2.2.1,?_;have e:=gQ (m:=T+W) (n:=N) ∅ n0.1 M1;unfold ltF at e;rw [e];have g1:=s3 _ _ f1;have g2:=s3 _ _ f2;have g3:dX _ q W M:=s3 _ _ hq2;have sn:=(s'.trans s2).trans s3
  generalize aJ H2 r2 (.tup [.int (aK (T+W) M).1,.int (aK (T+W) M).2])=H3 at g1 g2 g3 sn ⊢
  by_cases c:T+W < N
  ·rw [bh c];exists _,rfl,dR (ar c) ?_;have e2:=zP (a:=N) (c:=T) t0.1 ∅ M1;have F4:=dt F2.1.1 (show 0<=(aK T M).2 by have:=F3.2.2;omega);have bl1:gE (aK N M).1:=⟨by have:=F2.1.1;omega,by have:=F2.1.2;omega⟩
   have bl2:gE (aK N M).2:=⟨by have:=F2.2.1.1;omega,by have:=F2.2.1.2;omega⟩
   have bl3:gE (aK T M).1:=⟨by have:=F3.1.1;omega,by have:=F3.1.2;omega⟩
   have bl4:gE (aK T M).2:=⟨by have:=F3.2.1.1;omega,by have:=F3.2.1.2;omega⟩
   have lt2:=gQ (m:=T) (n:=N) t0.1 n0.1 M1;rw [ar (show T < N by omega)] at lt2;unfold ltF at lt2;have lt3:=cf lt2;have pm:=dD F2.2.2 F3.2.2;have mb:=(qU (show 0<=(aK N M).2 by have:=F2.2.2;omega) (show (aK N M).2 < 2 ^ 180 from F2.2.1.2) (show 0<=(aK T M).2 by have:=F3.2.2;omega) (show (aK T M).2 < 2 ^ 180 from F3.2.1.2)).2;exists _,rfl,q1,_,_,_,rfl,rfl,aT.of g1,tO _ _,_,rfl,q2,_,_,_,rfl,rfl,aT.of g2,mS _ _,_,_,rfl,rfl,⟨bl1,bl4⟩,_,rfl,q2,_,_,_,rfl,rfl,aT.of g2,tO _ _,_,rfl,q1,_,_,_,rfl,rfl,aT.of g1,mS _ _,_,_,rfl,rfl,⟨bl3,bl2⟩,_,_,rfl,rfl,_,rfl,q1,_,_,_,rfl,rfl,aT.of g1,mS _ _,_,rfl,q2,_,_,_,rfl,rfl,aT.of g2,mS _ _,_,_,rfl,rfl,⟨bl2,bl4⟩,_,_,rfl,∅,pm,pk mb (by decide),fun r5 hr5=>⟨r5,_,_,_,rfl,sn.trans (aA hr5 _),?_⟩;unfold dX;rw [<- e2];exact aB
  ·rw [ap c];exact ⟨_,rfl,bW (by simpa using c) ⟨q,_,_,_,rfl,sn,g3⟩⟩
 ·rintro σ G' ⟨q,v8,v9,v10,rfl,s',hq⟩;rw [tw.length,be] at hq;exact ⟨_,rfl,k _ q (sG.trans s') hq⟩
theorem bX3 (C_Draw:Cl P w K mg base 1 spDraw "_law_draw") (C_LLow:Cl P w K mg base 1 spLow "_law_lowest") (C_Plus:Cl P w K mg base 2 spPlus "_law_plus"):gX P w K mg base "_law_rest" "_law_rest" cG2 3 ["_law_deal_here","_law_worst_here"] spRst:=by
 refine jK ["_law_deal_here","_law_worst_here","_law_way"] fun H Q nd hr h=>?_
 obtain ⟨d,l,q,W,M0,rfl,D,hq,W0,W1,m1,m2,k⟩:=h;have hr1:bU 1 _:=hr.mono (by decide);refine ⟨_,(gF 2 nd (cP C_Draw hr (aC (pv 0) (aS aD)))
  (aI (cE (iL iR (pv 2) aD) (aG (aP (cP C_LLow hr (aC (aR bX (cQ aM (pv 1) aD) aD) (aS (aR bX (cQ aM (pv 1) aD) aD)))))) aU)
  (aI (cE (iL iR (pv 2) aD) (aG (aP (cP C_Plus hr (aC (pv 1) (aS (aW (aC aD (aS (aR bX aD (cQ aM (pv 1) aD)))))))))) aU)
  (aI (cE (iL iR (pv 2) aD) (aG (aP (cP C_LLow hr (aC (cP C_Draw hr (aC (pv 0) (aS aD))) (aS (aR fH aD (cP C_Draw hr (aC (pv 0) (aS aD))))))))) aU)
  (aG (aP (pv 1))))))),?_⟩
 have F0:=bZ (m:=W) (M:=M0) W0 ∅ m1 ∅;have dv:=gR (a:=W) m1;have y1:1<=(aK W M0).2:=F0.2.2;have yM:=aBd ∅ dv;have x1:(aK W M0).1<=W:=xZ W0 m1;have x0:0<=(aK W M0).1:=F0.1.1;have rr:=dH W0 m1;exists _,rfl,d,l,5,rfl,D,by decide,by decide,fun wy H1 w0 w1 D1 o1=>?_;have hq1:dX H1 q W M0:=TS.out D o1 _ _ hq;exists _,rfl,rfl,_,rfl,qV (fun _=>?_) (fun _=>?_)
 ·exists _,rfl,q,_,_,_,rfl,rfl,aT.of hq1,tO _ _,_,_,rfl,rfl,⟨⟨∅,∅⟩,⟨∅,∅⟩⟩,_,rfl,q,_,_,_,rfl,rfl,aT.of hq1,mS _ _,_,_,rfl,rfl,⟨⟨∅,∅⟩,⟨∅,∅⟩⟩,_,_,rfl,∅,∅,∅,fun r hr'=>?_;refine k _ r (W * 59) (M0 * 60) ?_ (xx _ _) ∅ ∅ ∅ ∅ (D1.same (aA hr' _)) (o1.trans (dM.of (aA hr' _)));unfold dX;rw [<- fS (a:=(aK W M0).1 * 59) (b:=(aK W M0).2 * 60) (c:=W * 59) (d:=M0 * 60) ∅ ∅ ∅ ∅ (by grind)];exact aB
 exists _,rfl,rfl,_,rfl,qV (fun _=>?_) (fun _=>?_)
 ·exists _,rfl,_,rfl,q,_,_,_,rfl,rfl,aT.of hq1,mS _ _,_,_,rfl,rfl,⟨⟨∅,∅⟩,⟨∅,∅⟩⟩,cT,fun r1 hr1=>?_;have s1:=aA hr1 (.tup [.int 1,.int (60 * (aK W M0).2)]);exists q,r1,aK W M0,(1,60 * (aK W M0).2),rfl,s1 _ _ hq1,aB,F0,⟨⟨show (0:Int)<=1 by decide,show (1:Int) < 2 ^ 180 by decide⟩,⟨∅,∅⟩,∅⟩,fun r hr'=>?_;obtain ⟨kk,ek⟩:=dv;have k0:0<=kk:=by
   by_cases c:0<=kk
   ·exact c
   ·have:=ii (show kk<= -1 by omega) (show 0<=(aK W M0).2 by omega);omega
  have kM:kk<=M0:=by
   have:=ie y1 k0;omega
  have s2:=s1.trans (aA hr' (.tup [.int (jI (aK W M0) (1,60 * (aK W M0).2)).1,.int (jI (aK W M0) (1,60 * (aK W M0).2)).2]));refine k _ r (W * 60+kk) (M0 * 60) ?_ (xx _ _) ∅ ∅ ∅ ∅ (D1.same s2) (o1.trans (dM.of s2));unfold dX;rw [<- eS (a:=W * 60) (b:=kk) ∅ k0 ∅];rw [<- fS (a:=W) (b:=M0) (c:=W * 60) (d:=M0 * 60) W0 m1 ∅ ∅ (by grind)];rw [<- fS (a:=1) (b:=60 * (aK W M0).2) (c:=kk) (d:=M0 * 60) (by decide) ∅ k0 ∅ (by grind)];rw [show aK 1 (60 * (aK W M0).2)=(1,60 * (aK W M0).2) from aK5 ∅];exact aB
 exists _,rfl,rfl,_,rfl,qV (fun _=>?_) (fun _=>?_)
 ·exists _,rfl,d,l,8,rfl,D1,by decide,by decide,fun a H2 a0 a1 D2 o2=>?_;exists _,rfl,d,l,9,rfl,D2,by decide,by decide,fun c H3 c0 c9 D3 o3=>⟨_,_,rfl,rfl,_,_,rfl,a0,∅,∅,fun r hr'=>?_⟩;have e1:=wt (show 1<=1+c by omega) m1 (by decide) ∅;have e2:=wt (show 1+c<=9 by omega) (gi M0) ∅ (by decide);have e3:=wt (show a<=7 by omega) (gi M0) ∅ (by decide);refine k _ r (a * M0) ((1+c) * M0) ?_ (Int.dvd_mul_left _ _) ∅ ∅ (dt a0 ∅) ∅ (D3.same (aA hr' _)) (o1.trans (o2.trans (o3.trans (dM.of (aA hr' _)))));unfold dX;rw [<- fS (a:=a) (b:=1+c) (c:=a * M0) (d:=(1+c) * M0) a0 ∅ (dt a0 ∅) ∅ (by grind)];exact aB
 exact ⟨_,rfl,k H1 q W M0 hq1 (Int.dvd_refl _) m1 ∅ W0 ∅ D1 o1⟩
theorem bS8 (C_Deal:Cl P w K mg base 1 (aX8 K) "_law_deal") (C_Two:Cl P w K mg base 3 spTwo "_law_two") (C_Fac:Cl P w K mg base 2 spFac "_law_factor") (C_Prs:Cl P w K mg base 2 spPrs "_law_pairs") (C_Wst:Cl P w K mg base 4 spWst "_law_worst") (C_Rst:Cl P w K mg base 3 spRst "_law_rest") (C_Pai:Cl P w K mg base 5 (aL0 P w) "paired") (C_Pool:Cl P w K mg base 2 spPool "_law_pool") (C_Goo:Cl P w K mg base 5 (xU P w) "_law_good") (C_Blw:Cl P w K mg base 1 spLessF "_law_below") (C_Shw:Cl P w K mg base 6 (xU P w) "shows") (C_Rest:Cl P w K mg base 5 spRest "least_rest") (C_Draw:Cl P w K mg base 1 spDraw "_law_draw") (m_range:mg "range"=none) (m_tuple:mg "tuple"=none) (m_dict:mg "dict"=none):gX P w K mg base "law" "law" aT4 7 ["_law_script"] (aK6 K):=by
 refine jK ["_law_script","_law_deal_here","_law_turn","_law_one","_law_other","_law_factor_here","_law_pairs_here","_law_worst_here","_law_rest_here","_law_told","_law_alike"] fun H Q nd hr h=>?_
 obtain ⟨sa,ns,rfl,hS,hlen,k⟩:=h;have hu:=fP hr;have hr1:bU 1 _:=hr.mono (by decide);have hr4:bU 4 _:=hr.mono (by decide);refine ⟨_,(gF 1 nd (cP C_Deal hr (aC (pv 0) (aS aD)))
  (aI (wK (jN (by rfl) m_range (aS aD)) (cW 2 nd)
  (aI (qH (cP C_Two hr (aC (pv 1) (aC (cP C_Pool hr (aC (pv 1) (aS (aR fH aD (cP C_Draw hr (aC (pv 1) (aS aD))))))) (aS aD)))) (bV3 rfl (aL (cW 3 nd) (aL (cW 4 nd) bE))))
  (gF 5 nd (cP C_Fac hr (aC (pv 1) (aC (pv 3) (aS (pv 4)))))
  (gF 6 nd (cP C_Prs hr (aC (pv 1) (aC (pv 3) (aS (pv 4)))))
  (gF 7 nd (cP C_Wst hr (aC (pv 3) (aC (pv 4) (aC (pv 6) (aS (pv 5))))))
  (gF 8 nd (cP C_Rst hr (aC (pv 1) (aS (pv 7))))
  (gF 9 nd (cP C_Pai hr (aC (pv 3) (aC (pv 4) (aC (pv 6) (aC (pv 5) (aS (pv 8)))))))
  (aI (cE (nC (fZ (cP C_Goo hr (aC (pv 3) (aC (pv 4) (aC (pv 6) (aC (pv 5) (aC (pv 8) (aS (pv 9)))))))))) (aG (aP eV)) aU)
  (aI (cE (iL uO (pec iR (cQ aM (pv 9) aD) cK) (cP C_Blw hr (aC (pv 8) (aS (pv 7))))) (aG (aP eV)) aU)
  (aI (cE (iL bM0 (cP C_Shw hr (aC (pv 3) (aC (pv 4) (aC (pv 6) (aC (pv 5) (aC (pv 8) (aS (pv 9)))))))) eV) (aG (aP eV)) aU)
  (gF 10 nd (vH fK m_tuple gy (aS (bJ ["_law_x","_law_share","_law_other"] [none,none,some 4] (cM (pv 3)) (fun _ _ _ _=>(kT K (n:=2) rfl (aL (cW 0) (aL (cW 1) bE)))) (fun _ _ _ _=>(gM (lL (uH hu (pv 0) (vH (kK hr1) m_dict fi (aS (pv 2))))))) (fun _ _ _ _=>(aW (aC (pv 0) (aS (pv 0))))))))
  (gF 9 nd (cP C_Pai hr (aC (pv 3) (aC (pv 4) (aC (pv 10) (aC (pv 5) (aS (pv 8)))))))
  (aG (cE (iL uO (pec iR (cQ aM (pv 9) aD) cK) (cP C_Blw hr (aC (pv 8) (aS (cP C_Rest hr (aC (pv 3) (aC (pv 4) (aS (pv 5))))))))) (aG (aP eV)) aU))))))))))))))
  (aG (aP eV)))),?_⟩
 exists _,rfl,sa,ns,0,rfl,hS,hlen,by decide,by decide,fun d l H1 nd' nl D1 s1=>?_;exists 3,rfl,by decide,by decide,pC (n:=3) (fun i σ G=>∃ (v2 v3 v4 v5 v6 v7 v8 v9 v10:Option V),σ=[some (.ref sa),some (.ref d),v2,v3,v4,v5,v6,v7,v8,v9,v10]/\eZ G d l) ⟨_,_,_,_,_,_,_,_,_,rfl,D1⟩ ?_ ?_
 ·rintro i σ H2 hi ⟨v2,v3,v4,v5,v6,v7,v8,v9,v10,rfl,D2⟩;exists _,rfl,_,rfl,_,rfl,d,l,5,rfl,D2,by decide,by decide,fun x H3 x0 x1 D3 o3=>⟨_,_,rfl,rfl,d,l,1+x,rfl,D3,∅,∅,fun b H4 r us as P4 pl hr4 D4 o4=>?_⟩;have nr:=fI D3 hr4;exists d,l,r,9,b,us,as,rfl,D4,P4,nr.2,∅,∅,by decide,by decide,fun H5 p0 t1 t2 es1 es2 c1 c2 hp0 h1 h2 k1 k2 D5 o5=>?_;exists p0,_,rfl,bK.of hp0,rfl,_,_,rfl,_,_,rfl,rfl,?_;exists _,rfl,_,rfl,_,rfl,d,l,b,t1,t2,c1,c2,es1,es2,rfl,D5,h1,h2,k1,k2,fun H6 p4 fac hp4 fo D6 o6=>?_;replace h1:=h1.ts (TS.out D5 o6);replace h2:=h2.ts (TS.out D5 o6);exists _,rfl,_,rfl,_,rfl,d,l,b,t1,t2,c1,c2,es1,es2,rfl,D6,h1,h2,k1,k2,fun H7 p3 ws3 prs h3 tw3 ly D7 o7=>?_;have A:nR b H7 t1 t2 p3 p4 c1 c2 es1 es2 fac ws3 prs:=⟨⟨h1.ts (TS.out D6 o7),h2.ts (TS.out D6 o7),TS.out D6 o7 _ _ hp4,k1,k2,fo⟩,h3,tw3,ly⟩
  clear h1 h2 hp4 h3 tw3 hp0 P4;obtain ⟨m0,M8⟩:=A.ask.base;have Z0:=A.scl m0;have wb:=fun i=>Z0.wbd ly i
  exists _,rfl,_,rfl,_,rfl,_,rfl,b,t1,t2,p3,p4,c1,c2,es1,es2,fac,ws3,prs,_,rfl,A,m0,wb,fun H8 q7 s8 f7=>?_;have W0:0<=wM prs es1 es2 fac (c1 * (fac.2 * c2))/\wM prs es1 es2 fac (c1 * (fac.2 * c2))<=c1 * (fac.2 * c2):=by
   have:=wb (eY (es1.map fun e:En=>e.1)).length;rw [be] at this;exact this
  replace A:=A.ts (TS.of s8);replace D7:=D7.same s8;exists _,rfl,_,rfl,d,l,q7,_,_,rfl,D7,f7,W0.1,W0.2,m0.m1,M8,fun H9 q8 rM M f8 dv M1 M2 r0 r1 D9 o9=>?_;have m:MOk c1 c2 fac M:=⟨dv,M1,M2⟩
  replace A:=A.ts (TS.out D7 o9);replace f7:dX H9 q7 _ _:=TS.out D7 o9 _ _ f7;have Z:=A.scl m;have ws:=Z0.w_scale Z dv ly;have fW:dX H9 q7 (wM prs es1 es2 fac M) M:=by
   unfold dX at f7 ⊢;rw [ws, <- oA W0.1 m0.m1 M1 dv];exact f7
  clear f7;obtain ⟨us1,h1,tw1⟩:=A.ask.h1;obtain ⟨us2,h2,tw2⟩:=A.ask.h2;have Fr:=bZ (m:=rM) (M:=M) r0 ∅ M1 ∅;exists _,rfl,_,rfl,_,rfl,_,rfl,_,rfl,b,t1,t2,p3,p4,q8,us1,us2,ws3,es1,es2,prs,fac,aK rM M,M,rfl,h1,tw1,h2,tw2,A.h3,A.tw3,A.ask.hf,f8,Z.pa ly Fr (gR M1),fun H10 r9 s10 T0=>?_;obtain ⟨T,w0,w1⟩:=aZ4 A m r0 r1 T0;have FW:=bZ (m:=wM prs es1 es2 fac M) (M:=M) w0 ∅ M1 ∅;have A10:=A.ts (TS.of s10);have f10:dX H10 q8 rM M:=s10 _ _ f8;have fW10:dX H10 q7 (wM prs es1 es2 fac M) M:=s10 _ _ fW;generalize ebk:decide (rM < wM prs es1 es2 fac M)=bk at T;exists _,rfl,_,rfl,_,rfl,_,rfl,_,rfl,_,rfl,b,t1,t2,p3,p4,q8,r9,c1,c2,es1,es2,fac,ws3,prs,M,rM,bk,rfl,A10,m,f10,r0,r1,T,fun H11 s11=>⟨_,rfl,bW (by decide) ?_⟩;replace T:=T.same s11;have s1011:=s10.trans s11;obtain ⟨xt,hrt⟩:=T.head;have f11:dX H11 q8 rM M:=s1011 _ _ f8;have fW11:dX H11 q7 (wM prs es1 es2 fac M) M:=s1011 _ _ fW
  have el:=gQ (m:=rM) (n:=wM prs es1 es2 fac M) r0 w0 M1;unfold ltF at el;exists _,rfl,r9,_,_,_,rfl,rfl,aT.of hrt,rfl,rfl,_,rfl,_,rfl,q8,q7,_,_,_,_,rfl,f11,fW11,Fr.1,Fr.2.1,FW.1,FW.2.1,?_;rw [el,ebk];exists rfl,_,rfl,bW (by rw [aM5];simp) ?_;exists _,rfl,_,rfl,_,rfl,_,rfl,_,rfl,_,rfl,b,t1,t2,p3,p4,q8,r9,c1,c2,es1,es2,fac,ws3,prs,M,rM,bk,rfl,A.ts (TS.of s1011),m,f11,r0,r1,T,fun H12 s12=>⟨_,_,rfl,rfl,_,rfl,bW (by decide) ?_⟩;have s912:=s1011.trans s12;replace A:=A.ts (TS.of s912);replace f8:dX H12 q8 rM M:=s912 _ _ f8;replace D9:=D9.same s912;replace h1:=s912 _ _ h1;replace h2:=s912 _ _ h2;replace tw1:=tw1.mono fun _ _ z=>nZ.ts (TS.of s912) z
  replace tw2:=tw2.mono fun _ _ z=>nZ.ts (TS.of s912) z
  clear T T0 hrt f10 f11 fW fW10 fW11 A10 s912 s1011 s10 s11 s12;have l1:=tw1.length;have l2:=tw2.length;have z1:=k1.l2;have z2:=k2.l2;exists _,rfl,t1,rfl,⟨_,aT.of h1⟩,cC (xs:=us1) (fun i ys σ G=>aN H12 G/\(∃ v1 v2,σ=[v1,v2,some (.ref t2)])/\bC (jJ b G) ys ((((es1.map fun e:En=>e.1).take i).filter (eO (es2.map fun e:En=>e.1))).map fun x=>(x,x))) (aH ∅) ⟨aN.refl _,⟨_,_,rfl⟩,trivial⟩ (by rintro i ys σ G ⟨_,_,t⟩;rw [t.length,ae];exact cy (de _ _) (by rw [bx];omega)) (by rintro i ys σ G _ ⟨s,_⟩;exact aT.of (s _ _ h1)) ?_ ?_
  ·rintro j u ys σ G hu ⟨s,⟨v1,v2,rfl⟩,t⟩;obtain ⟨e,he,me,tt,x,p,rfl,ht,vx,hp⟩:=fY.at tw1 hu;exists tt,_,rfl,aT.of (s _ _ ht),rfl,_,_,rfl,_,_,rfl,rfl,?_;obtain ⟨o,o0,od⟩:=rK (aH (show us2.length<=1000 by omega)) k2.nd (tw2.mono fun _ _ z=>nZ.ts (TS.of s) z);exists _,rfl,_,rfl,t2,us2,o,rfl,s _ _ h2,o0,fun dd hdd=>⟨(od dd hdd).1,?_⟩;obtain ⟨_,hD,sD⟩:=od dd hdd;generalize aJ G dd (o us2.length)=G2 at hD sD ⊢;have sG:=s.trans sD;have vx2:=vx.ts (TS.of sG);obtain ⟨o',g',r'⟩:=hD.get vx2;have ei:o'.isSome=eO (es2.map fun e:En=>e.1) e.1:=bS0 r';exists dd,o',rfl,g',_,rfl,?_;rw [ei,aO (kE (f:=fun e:En=>e.1) he),fk,bp];have t2':=t.mono fun _ _ z=>jJ.ts (TS.of sD) z
   by_cases c:eO (es2.map fun e:En=>e.1) e.1=true
   ·refine dR c ⟨_,rfl,_,rfl,cT,fun r hr'=>⟨sG.trans (aA hr' _),⟨_,_,rfl⟩,?_⟩⟩;have tr:=TS.of (aA hr' (.tup [x,x]));rw [fb c,eu];exact bC.append (t2'.mono fun _ _ z=>jJ.ts tr z) ⟨⟨r,x,x,rfl,aB,vx2.ts tr,vx2.ts tr⟩,trivial⟩
   ·refine bW c ⟨sG,⟨_,_,rfl⟩,?_⟩;rw [dz c,eu,jf,fw];exact t2'
  rintro ysA σA GA ⟨sA,_,tA⟩ lA hlA;rw [l1,show es1.length=(es1.map fun e:En=>e.1).length from (ae ..).symm,be] at tA
  change bC (jJ b GA) ysA (alike (es1.map fun e:En=>e.1) (es2.map fun e:En=>e.1)) at tA
  exists lA,ysA,rfl,.inl ⟨bK.of aB,fun pA hpA=>?_⟩;have sB:=(aA hlA (.lst ysA)).trans (aA hpA (.tup ysA));have hB:aJ (aJ GA lA (.lst ysA)) pA (.tup ysA) pA=some (.tup ysA):=aB;have tB:=tA.mono fun _ _ z=>jJ.ts (TS.of sB) z
  generalize aJ (aJ GA lA (.lst ysA)) pA (.tup ysA)=HB at sB hB tB ⊢;have s12B:=sA.trans sB;have LA:=yY k1.nd k2.nd (by rw [ae];exact z1) (by rw [ae];exact z2);have AB0:=A.ts (TS.of s12B);have AB:nR b HB t1 t2 pA p4 c1 c2 es1 es2 fac ysA (alike (es1.map fun e:En=>e.1) (es2.map fun e:En=>e.1)):=⟨AB0.ask,hB,tB,LA⟩
  obtain ⟨vs1,h1',tw1'⟩:=AB.ask.h1;obtain ⟨vs2,h2',tw2'⟩:=AB.ask.h2;exists _,rfl,_,rfl,_,rfl,_,rfl,_,rfl,b,t1,t2,pA,p4,q8,vs1,vs2,ysA,es1,es2,_,fac,aK rM M,M,rfl,h1',tw1',h2',tw2',hB,tB,AB.ask.hf,s12B _ _ f8,Z.pa LA Fr (gR M1),fun HC rC sC T0=>?_;obtain ⟨T,w0',w1'⟩:=aZ4 AB m r0 r1 T0;rw [Z.w_alike] at T w0' w1';obtain ⟨eR,o0,o1⟩:=Z.rest;generalize ebk2:decide (rM < jC (es1.map fun e:En=>e.1) (bD es1 M) (bD (bQ fac es2) M))=bk2 at T;obtain ⟨xt,hrt⟩:=T.head;have s12C:=s12B.trans sC;exists _,rfl,rC,_,_,_,rfl,rfl,aT.of hrt,rfl,rfl,_,rfl,_,rfl,_,rfl,_,rfl,b,t1,t2,p4,c1,c2,es1,es2,fac,rfl,(A.ts (TS.of s12C)).ask,fun HE rE sE fE=>?_;rw [eR] at fE;have FO:=bZ (m:=jC (es1.map fun e:En=>e.1) (bD es1 M) (bD (bQ fac es2) M)) (M:=M) o0 ∅ M1 ∅;have el2:=gQ (m:=rM) (n:=jC (es1.map fun e:En=>e.1) (bD es1 M) (bD (bQ fac es2) M)) r0 o0 M1;unfold ltF at el2;have s12E:=s12C.trans sE;exists q8,rE,_,_,_,_,rfl,s12E _ _ f8,fE,Fr.1,Fr.2.1,FO.1,FO.2.1,?_
  rw [el2,ebk2];exists rfl,_,rfl,bW (by rw [aM5];simp) ⟨_,_,_,_,_,_,_,_,_,rfl,D9.same s12E⟩
 ·rintro σ G ⟨v2,v3,v4,v5,v6,v7,v8,v9,v10,rfl,DG⟩;exact k G
end
theorem all_mk {l:W.OpenLaw}{w:World}{K:W.Frag}{h:Heap}{mg:Str->Option Value}{fa:Addr}(X:K.In h) (G:h.Ns mainGlobals mg) (hfa:mg "law"=some (.ref fa))
  {cL iI:Addr}
  (t1:TopAt K "common_divisor" cC0)
  (t2:TopAt K "lowest" cB5)
  (t3:TopAt K "added" cA6)
  (t4:TopAt K "times" aU9)
  (t5:TopAt K "minus" bE4)
  (t6:TopAt K "less" bN6)
  (t7:TopAt K "are_rising" cF7)
  (t8:TopAt K "come_to" bM6)
  (t9:TopAt K "grouped" cH1)
  (t11:TopAt K "common_bottom" cE8)
  (t12:TopAt K "amount_of" cE7)
  (t13:TopAt K "amounts_of" cG8)
  (t14:TopAt K "next_places" cD7)
  (t15:TopAt K "has_room" cF1)
  (t16:TopAt K "searched" cG3)
  (t17:TopAt K "answers_back" cE5)
  (t18:TopAt K "lay_along" cH6)
  (t19:TopAt K "lay_all" cB9)
  (t20:TopAt K "paired" cD5)
  (t21:TopAt K "come_to_each" cF8)
  (t22:TopAt K "is_pairing" cA9)
  (t23:TopAt K "is_breaking" cE2)
  (t24:TopAt K "shows" bZ4)
  (t25:TopAt K "those_above" cE3)
  (t26:TopAt K "least_rest" bO5)
  (t27:TopAt K "_law_deal" bD4)
  (t28:TopAt K "_law_draw" aU5)
  (t29:TopAt K "_law_lowest" bM8)
  (t30:TopAt K "_law_pool" bN2)
  (t31:TopAt K "_law_shares" cB6)
  (t32:TopAt K "_law_two" cA2)
  (t33:TopAt K "_law_plus" bO3)
  (t34:TopAt K "_law_times" bN8)
  (t35:TopAt K "_law_below" cA0)
  (t36:TopAt K "_law_factor" cD8)
  (t37:TopAt K "_law_pairs" cF6)
  (t38:TopAt K "_law_is_pairing" bP6)
  (t39:TopAt K "_law_over" cG7)
  (t40:TopAt K "_law_breaks" cH0)
  (t41:TopAt K "_law_good" cB4)
  (t42:TopAt K "_law_worst" bZ1)
  (t43:TopAt K "_law_rest" cG2)
  (t44:TopAt K "law" aT4)
  (z_all:W.nsIn K mainGlobals "all"=some none)
  (z_range:W.nsIn K mainGlobals "range"=some none)
  (z_len:W.nsIn K mainGlobals "len"=some none)
  (z_dict:W.nsIn K mainGlobals "dict"=some none)
  (z_min:W.nsIn K mainGlobals "min"=some none)
  (z_sum:W.nsIn K mainGlobals "sum"=some none)
  (z_tuple:W.nsIn K mainGlobals "tuple"=some none)
  (z_list:W.nsIn K mainGlobals "list"=some none)
  (z_any:W.nsIn K mainGlobals "any"=some none)
  (z_max:W.nsIn K mainGlobals "max"=some none)
  (z_reversed:W.nsIn K mainGlobals "reversed"=some none)
  (z_sorted:W.nsIn K mainGlobals "sorted"=some none)
  (z_zip:W.nsIn K mainGlobals "zip"=some none)
  (z_isinstance:W.nsIn K mainGlobals "isinstance"=some none)
  (z_repr:W.nsIn K mainGlobals "repr"=some none)
  (qS:W.nsIn K mainGlobals "Laying"=some (some (.ref cL)))
  (S1:W.plainGet K cL Str.empty=true)
  (S2:W.hasDictIn K cL=true)
  (S3:W.plainOver K cL=true)
  (S4:W.findIn K (.ref cL) "__setattr__"=some (some (.builtin "object.__setattr__")))
  (S5:W.findIn K (.ref cL) "one_left"=some none)
  (S6:W.findIn K (.ref cL) "other_left"=some none)
  (S7:W.findIn K (.ref cL) "partners"=some none)
  (S8:W.findIn K (.ref cL) "givers"=some none)
  (S9:W.findIn K (.ref cL) "laid"=some none)
  (M1:W.makesIn K cL=true)
  (M2:W.findIn K (.ref cL) "__init__"=some (some (.ref iI)))
  (M3:W.isFn K (.ref iI)=true)
  (M4:W.keepIn K (.ref cL)=true)
  (dI:DefAt K "__init__" "Laying.__init__" bZ2 iI) :
  ∃ fd:FuncData,(∀ (s:Shared) (v:Value),BindsTo s fd ⟨[v],[]⟩ [("_law_script",v)])/\∀ base:Heap,K.In base->base.Ns mainGlobals mg->nK l.prog w K mg base CX0 7 fa fd ["_law_script"] (aK6 K):=by
 obtain ⟨_,la,oc,od,kV,dc,pm,an,cd,ct,sl,lk,lc,lp⟩:=t44
 cases hfa.symm.trans (W.mg_of X G la)
 exists W.fnOf "law" "law" (cS aT4) (cG aT4) (bA aT4) .none kV dc pm an cd ct,fun s v=> .of_eq rfl,fun base _ _=>?_;have Z:Zx l.prog w K mg base:= .of X G;have y_all:=Z.no _ z_all;have y_range:=Z.no _ z_range;have y_len:=Z.no _ z_len;have y_dict:=Z.no _ z_dict;have y_min:=Z.no _ z_min;have y_sum:=Z.no _ z_sum;have y_tuple:=Z.no _ z_tuple;have y_list:=Z.no _ z_list;have y_any:=Z.no _ z_any;have y_max:=Z.no _ z_max;have y_reversed:=Z.no _ z_reversed;have y_sorted:=Z.no _ z_sorted;have y_zip:=Z.no _ z_zip;have y_isinstance:=Z.no _ z_isinstance;have y_repr:=Z.no _ z_repr;have mL:=Z.ns _ _ qS;have T:LyT K cL:=⟨⟨S1,S2,S3,S4⟩,S5,S6,S7,S8,S9⟩
 have M:Mk K cL iI:=⟨M1,M2,M3,M4⟩
 have C1:=Z.c2 t1 (bW9);have C2:=Z.c2 t2 (bV4 C1);have C3:=Z.c2 t3 (bV9 C2);have C4:=Z.c2 t4 (bA0 C2);have C5:=Z.c2 t5 (aV2 C2);have C6:=Z.c2 t6 (bK6);have C7:=Z.c1 t7 (bS1 y_all y_range y_len);have C8:=Z.c1 t8 (bJ4 C3);have C9:=fun b=>Z.c1 t9 (bT4 (b:=b))
 obtain ⟨_,FI⟩:=dI.fn;have GI:=fun b=>bY5 (b:=b) (P:=l.prog) (w:=w) (mg:=mg) (base:=base) T (C9 b) y_dict FI
 have bI:=FI.b4 (p1:="self") (p2:="one_left") (p3:="other_left") (p4:="pairs") fun _ _ _ _ _ _ _ _ _ _=>rfl
 have MK:∀ b,MkL l.prog w K mg base 3 (aG8 l.prog w K b cL) cL "Laying":=fun b=>⟨_,_,_,M,GI b,bI,mL⟩
 have C11:=Z.c1 t11 (bS9 C1);have C12:=Z.c2 t12 (bW0);have C13:=fun b=>Z.c2 t13 (bU6 (b:=b) C12 y_dict)
 have C14:=fun b=>Z.c2 t14 (bV5 (b:=b) T)
 have C15:=fun b=>Z.c2 t15 (bW8 (b:=b) T)
 have C16:=fun b=>Z.c1 t16 (bU4 (b:=b) T (C14 b) (C15 b) y_dict y_len)
 have C17:=fun b=>Z.c2 t17 (bR4 (b:=b))
 have C18:=fun b=>Z.c2 t18 (bQ9 (b:=b) T y_min y_range y_len)
 have C19:=fun b=>Z.c1 t19 (bS6 (b:=b) T (C16 b) (C18 b) (C17 b))
 have C20:=fun b=>Z.c5 t20 (aY7 (b:=b) T (MK b) C11 (C19 b) (C13 b) C12 C4 C2 y_sum y_tuple y_dict y_list)
 have CE:Cl l.prog w K mg base 5 (aL0 l.prog w) "paired":=Z.c5 t20 (bX1 fun b=>aY7 (b:=b) T (MK b) C11 (C19 b) (C13 b) C12 C4 C2 y_sum y_tuple y_dict y_list);have C21:=Z.c2 t21 (bS4 C3);have C22:=Z.c6 t22 (bY1 C21 C6 C3 C4 C8 y_dict y_any y_all y_list);have C23:=Z.c6 t23 (bZ0 C8 C4 C6 C3 C7 y_dict y_all);have C24:=Z.c6 t24 (bT3 C22 C23);have C25:=Z.c3 t25 (bS3 C4 C6 y_dict);have C26:=Z.c3 t26 (bG6 C8 C5 C25);have C27:=Z.c2 t27 fun F=>bG7 F y_max y_reversed y_list
 have C28:=Z.c2 t28 fun F=>bL4 F y_len
 have C29:=Z.c2 t29 (bL5);have C30:=Z.c2 t30 (bK7 C28 y_range y_sorted y_tuple);have C31:=Z.c2 t31 (bU1 C29 y_sum y_tuple y_zip);have C32:=Z.c3 t32 (bQ3 C28 C31 y_range y_list y_len);have C33:=Z.c2 t33 (bF4 C29);have C34:=Z.c2 t34 (bI1 C29);have C35:=Z.c2 t35 (bY6);have C36:=Z.c3 t36 (bV2 C29 C28 y_dict y_max y_len);have C37:=Z.c3 t37 (bR0 C28 y_tuple);have C38:=Z.c6 t38 (bF2 C33 C35 C34);have C39:=Z.c5 t39 (bQ6 C34 C33);have C40:=Z.c6 t40 (bW5 C39 C35 C33 y_list);have C41:=Z.c6 t41 (bR2 C38 C40 C29 y_isinstance y_tuple y_len y_dict y_repr y_min);have C42:=Z.c4 t42 (bV0 C39 C35 C33 C29);have C43:=Z.c2 t43 (bX3 C28 C29 C33);exact bS8 C27 C32 C36 C37 C42 C43 CE C30 C41 C35 C24 C26 C28 y_range y_tuple y_dict (aX3 lk lc lp)
theorem walk {l:W.OpenLaw}{q:Program}{loose:List Str}{XP:(Str->Option Value)->Heap->Prop}{YP:World->Heap->Prop}{d:DefRec}{K:Params->W.Frag}(hn:l.most=some 63) (hdf:d.params.defaults=[])
  (hY:∀ (w:World) (h:Heap),YP w h->(K w.params).In h)
  (F:∀ (w:World) (mg:Str->Option Value) (fa:Addr) (h:Heap),(K w.params).In h->h.Ns mainGlobals mg->mg d.name=some (.ref fa) ->
   ∃ fd:FuncData,(∀ (s:Shared) (u:Value),BindsTo s fd ⟨[u],[]⟩ [("_law_script",u)])/\∀ base:Heap,(K w.params).In base->base.Ns mainGlobals mg->nK l.prog w (K w.params) mg base CX0 7 fa fd ["_law_script"] (aK6 (K w.params))) :
  W.WalkO q loose XP YP l.row.toRowW d [] (fun f vs=>PySem.call f vs) :=
 L2.walk_of (n:=63) (k:=7) (x:="_law_script") (CX:=fun _=>CX0) (sp:=fun w=>aK6 (K w.params)) hn (by decide) hdf ⟨rfl,by decide,by decide,rfl⟩ hY F (fun _ _ a ns hl _ hS=>⟨a,ns,rfl,hS,hl,fun _=>rfl⟩) fun _ _ _ _ _ z=>z
end Mine
open PySem PySem.W PyProof.Rows
namespace PySem.W.Fast
def tw10044100025401217674:=0
def tw10093390213451747245:=0
def tw1011830516768715061:=0
def tw10139498097802480776:=0
def tw10229102459481349831:=0
def tw10355356020168499055:=0
def tw10469191971377462171:=0
def tw10521446518079260965:=0
def tw10546900915357438386:=0
def tw10615340070942204315:=0
def tw10683308528251087932:=0
def tw10698314800486438526:=0
def tw10711636977234649526:=0
def tw10716662165945628756:=0
def tw10722741329708923869:=0
def tw10781086043460668686:=0
def tw10791066127317186365:=0
def tw10818072725082788407:=0
def tw11017069310507871083:=0
def tw11022998383016737285:=0
def tw11081277976686776387:=0
def tw11081897914847639957:=0
def tw11173473479394376706:=0
def tw11205576444559704382:=0
def tw11533433208394696540:=0
def tw11561467541584971580:=0
def tw11642774444529825706:=0
def tw11844653344348958028:=0
def tw11910153974694303073:=0
def tw11912785890615106993:=0
def tw12050512436547824870:=0
def tw12177861724138619419:=0
def tw12277149377004720194:=0
def tw12300876921188244171:=0
def tw12401399932756091127:=0
def tw12410761739782419074:=0
def tw12446212207153113254:=0
def tw12580255115762647329:=0
def tw12617624638569893734:=0
def tw12624724153344637658:=0
def tw12636012733981049916:=0
def tw12684029696138433437:=0
def tw12721752042759781239:=0
def tw12760871726029267871:=0
def tw12792706176291424473:=0
def tw12824563486293783813:=0
def tw12901552393441456906:=0
def tw13169155416611244481:=0
def tw13188210813111676923:=0
def tw13349049238345208507:=0
def tw1336164321261646376:=0
def tw13388017318837672916:=0
def tw13488136746856902882:=0
def tw13575033172253345403:=0
def tw13582874869467087451:=0
def tw13656262560644572232:=0
def tw13659397578985182885:=0
def tw13697196259684821486:=0
def tw13763011172416390833:=0
def tw13794640495576517718:=0
def tw13805803181980299387:=0
def tw13808201058669511025:=0
def tw13824074644413531095:=0
def tw13996021210506411529:=0
def tw13999754797963108519:=0
def tw14199344896072697267:=0
def tw14264984112391877466:=0
def tw14293801005966562729:=0
def tw14338517464917263030:=0
def tw14366824021075908095:=0
def tw14417157056791850321:=0
def tw14454665368511474012:=0
def tw14551455617605016147:=0
def tw14570241610976231622:=0
def tw14590323996662465928:=0
def tw14788986659845082712:=0
def tw14810705851716577139:=0
def tw14820630674742147576:=0
def tw14875515796391107375:=0
def tw14927895531457478636:=0
def tw14952069481163996406:=0
def tw15000484900205915894:=0
def tw15036949328268901129:=0
def tw15086308800236751453:=0
def tw15131550572264585590:=0
def tw1517239104545190376:=0
def tw15179400578062517081:=0
def tw15222794599964438787:=0
def tw15229639615128181290:=0
def tw15230728296209373735:=0
def tw15240864278938536443:=0
def tw15424939175794030526:=0
def tw15533567870754584392:=0
def tw15715517786098963792:=0
def tw15799276864516440918:=0
def tw15828473902503543465:=0
def tw15950696414249425749:=0
def tw16201902985919791716:=0
def tw16284433798960869392:=0
def tw16286441029308213198:=0
def tw16304608036491299291:=0
def tw16313578862530209490:=0
def tw16333268812589095599:=0
def tw16354954334226675978:=0
def tw16405024200165232328:=0
def tw16418297774497213248:=0
def tw16449538341097443561:=0
def tw16450613724435100521:=0
def tw16457266186942224854:=0
def tw16548973836815014994:=0
def tw16591551494122386230:=0
def tw16705119568599112198:=0
def tw16725617485900266783:=0
def tw16774460032740083953:=0
def tw1696262655272841056:=0
def tw16983484496071947056:=0
def tw1698877767346048169:=0
def tw17087820203414281368:=0
def tw17091516347532142739:=0
def tw17127350185615291853:=0
def tw17150357849387233402:=0
def tw17151415666654583995:=0
def tw17283607468771315637:=0
def tw17407486160663536368:=0
def tw17418204327684038236:=0
def tw17501935241029039183:=0
def tw17530121049666253003:=0
def tw17618301452336476506:=0
def tw17644637281528423357:=0
def tw17735686509713249047:=0
def tw17925219744326080609:=0
def tw17952133644784357208:=0
def tw1798120027101699341:=0
def tw18022716757928192612:=0
def tw18051849358536090621:=0
def tw18123699311325418828:=0
def tw18248657858692157500:=0
def tw18284891044125922268:=0
def tw18293404484132249038:=0
def tw18399960404044629464:=0
def tw1890004852345519754:=0
def tw1954925481064426423:=0
def tw197122826335467672:=0
def tw1974018022879621050:=0
def tw1982826591809181994:=0
def tw2046438746861781338:=0
def tw2078167573717245863:=0
def tw2151461350196845733:=0
def tw2175637496173893053:=0
def tw2190538552082288057:=0
def tw2206767078316600640:=0
def tw221615116164885966:=0
def tw2327984151308715325:=0
def tw2366294916233274735:=0
def tw2411101227075097337:=0
def tw2491830044959265872:=0
def tw2504629115376683404:=0
def tw2546559897066049974:=0
def tw2554248116025715771:=0
def tw2589124429988386959:=0
def tw2624332755871380064:=0
def tw2681426363591323326:=0
def tw280551726342038257:=0
def tw3047141023035970429:=0
def tw3052116198728730991:=0
def tw3096801302327821193:=0
def tw3105978176509723257:=0
def tw3192802289482163702:=0
def tw3440662871028937956:=0
def tw3472870148211605089:=0
def tw3489347100455611044:=0
def tw351011888791179258:=0
def tw3555307562982374233:=0
def tw3720975371947934432:=0
def tw372304808426210147:=0
def tw3864753744500797116:=0
def tw3928938261118476002:=0
def tw3946586571158996789:=0
def tw397757640956928572:=0
def tw4034825125892403368:=0
def tw4095409066516309723:=0
def tw4120848765906802387:=0
def tw4131257796509759546:=0
def tw4152455121071418248:=0
def tw4264004967406898671:=0
def tw4504588944588715162:=0
def tw4599973305738957013:=0
def tw4816545354253754589:=0
def tw4890242305346372255:=0
def tw5026897499162182728:=0
def tw5153749318803374553:=0
def tw5157084348730700331:=0
def tw5213526375212336326:=0
def tw5253301585140060152:=0
def tw5259272145266286355:=0
def tw5287036147329391272:=0
def tw5314679217844023277:=0
def tw5807950950363716013:=0
def tw6050851562496895111:=0
def tw6207032341075451432:=0
def tw6222734223125593073:=0
def tw6430346273592178573:=0
def tw6443020910678351187:=0
def tw6444897430556508592:=0
def tw6540588664084934005:=0
def tw6665241039081917485:=0
def tw6700979724212434553:=0
def tw6711726291659416626:=0
def tw6734117071089127138:=0
def tw6800847394169231433:=0
def tw6803811760535828865:=0
def tw6929356871784278268:=0
def tw7071969030047544618:=0
def tw7221460355497941926:=0
def tw7246150511440387081:=0
def tw7299690882811358383:=0
def tw7315557819378745075:=0
def tw74156253941711427:=0
def tw7438509859824694525:=0
def tw7552717741289324398:=0
def tw7620641188266855953:=0
def tw7681356811381915510:=0
def tw7840659866021708174:=0
def tw7850145913855520657:=0
def tw789542161179919772:=0
def tw8016662091218406195:=0
def tw8104904445248143267:=0
def tw8114679926642199976:=0
def tw8260498641761918582:=0
def tw8319593731841708270:=0
def tw8337701301859499949:=0
def tw8558731889834842788:=0
def tw8573222518686072758:=0
def tw8615700789775710362:=0
def tw8624885374488794900:=0
def tw8823610652881829995:=0
def tw8874622948147857521:=0
def tw8901006537811141535:=0
def tw8962087449135876338:=0
def tw9008522025801020304:=0
def tw9010034358603439805:=0
def tw9080929026347321094:=0
def tw9118514343235948853:=0
def tw9188697546985528902:=0
def tw9197361641102125179:=0
def tw9235194624691122353:=0
def tw9266803061996449160:=0
def tw9303062101935196387:=0
def tw935178913310806696:=0
def tw9353851228524681736:=0
def tw9462657503411313064:=0
def tw9516262696333275311:=0
def tw9566292344267196576:=0
def tw9570506802714416997:=0
def tw9583275600854403662:=0
def tw9654085396714156424:=0
def tw9668935992160231734:=0
def tw9718008973536318247:=0
def tw9826493522772759844:=0
def tw9849077982266375143:=0
def tw9959933510209207641:=0
def tw9964877787200914193:=0
def tw9983744224658882636:=0
end PySem.W.Fast
set_option maxRecDepth 100000 in
set_option maxHeartbeats 0 in
theorem PySem.Challenge.cw_pairedthrows_k31_whole_just_one_of_both_holds : PySem.Challenge.rw_pairedthrows_k31_whole_just_one_of_both.Holds := by
  w_on;o_law;k_head;(case hw=>w_witness2)
  k_fill
  refine Mine.walk (l:=PySem.Challenge.rw_pairedthrows_k31_whole_just_one_of_both) rfl rfl (fun w h Y=>PySem.W.kIn_of Y) ?F
  case F =>
    intro w mg fa h KX G hmg
    refine' Mine.all_mk KX G hmg ?a0 ?a1 ?a2 ?a3 ?a4 ?a5 ?a6 ?a7 ?a8 ?a9 ?a10 ?a11 ?a12 ?a13 ?a14 ?a15 ?a16 ?a17 ?a18 ?a19 ?a20 ?a21 ?a22 ?a23 ?a24 ?a25 ?a26 ?a27 ?a28 ?a29 ?a30 ?a31 ?a32 ?a33 ?a34 ?a35 ?a36 ?a37 ?a38 ?a39 ?a40 ?a41 ?a42 ?a43 ?a44 ?a45 ?a46 ?a47 ?a48 ?a49 ?a50 ?a51 ?a52 ?a53 ?a54 ?a55 ?a56 ?a57 ?a58 ?a59 ?a60 ?a61 ?a62 ?a63 ?a64 ?a65 ?a66 ?a67 ?a68 ?a69 ?a70 ?a71 ?a72
    case a43|a44|a45|a46|a47|a48|a49|a50|a51|a52|a53|a54|a55|a56|a57|a58|a59|a60|a61|a62|a63|a64|a65|a66|a67|a68|a69|a70|a71=>k_is
    case a72=>apply L2.DefAt.of<;>k_is
    case a0|a1|a2|a3|a4|a5|a6|a7|a8|a9|a10|a11|a12|a13|a14|a15|a16|a17|a18|a19|a20|a21|a22|a23|a24|a25|a26|a27|a28|a29|a30|a31|a32|a33|a34|a35|a36|a37|a38|a39|a40|a41|a42=>apply L2.TopAt.of<;>k_is
